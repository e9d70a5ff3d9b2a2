/- Merged. -/
import Derived.Test.YtdhibldkldlfpaaGreatDoorRows
import Derived.WalkKit
import Derived.ProofKit
import Derived.Lib.Hide
import Derived.WalkSmall
import Derived.Deep.QuietTactic
import Derived.BigQuiet
import Derived.Lib.Bytes
import Derived.Lib.IndexLaws
import Derived.Test.YtdhibldkldlfpaaGreatDoorEmitLeastX1
import Derived.Lib.ConvBytes
namespace Go.Proofs.YtdhibldkldlfpaaGreatDoor
namespace Base
end Base
namespace bJ
end bJ
namespace Hp
end Hp
namespace cn
end cn
end Go.Proofs.YtdhibldkldlfpaaGreatDoor
section
namespace Go.Proofs.YtdhibldkldlfpaaGreatDoor.Base
open Go.RowKit Go.ChangeShapes Go.WideShapes
theorem own:ownKnob Tryz.prog.godebug=none:=by kernel_rfl
theorem laidOut:laidOutB Tryz.prog=true:=by kernel_rfl
def Jt (k:IntKind) (w:World) (a:Option Addr) (len cap:Nat) (zs:List Int):Prop:=
 (a=none∧len=0∧cap=0∧zs=[])∨
 ∃x,a=some x∧len≤cap∧cap≤maxLen∧zs.length=cap∧(∀i,i<zs.length→w.cell? (x.add i)=some (.int k (zs.getD i 0)))∧∀n∈zs,(Lit.int k n).wf=true
theorem UX {n:Int} (h:(Lit.int .i64 n).wf=true):-9223372036854775808≤n∧n≤9223372036854775807:=by
 have h1:IntKind.i64.min=-9223372036854775808:=rfl;have A:IntKind.i64.max=9223372036854775807:=rfl;simp only[Lit.wf,Bool.and_eq_true,decide_eq_true_eq]at h;omega
theorem Rr {k:IntKind} {w:World} {a:Option Addr} {len cap:Nat} {zs:List Int} (h:Jt k w a len cap zs) (hl:0<len):
 ∃b off,a=some ⟨b,off,none⟩∧len≤cap∧cap≤maxLen∧zs.length=cap∧b<w.heap.size∧(∀i,i<len→w.cell? ⟨b,off+i,none⟩=some (.int k ((zs.take len).getD i 0)))∧(zs.take len).length=len:=by
 rcases h with⟨_,h,_,_⟩|⟨x,rfl,h1,h2,h3,h4,_⟩
 ·omega
 ·obtain⟨b,off,spot⟩:=x
  have A:spot=none:=by simpa [Addr.add]using World.cell?_spot (h4 0 (by omega))
  subst A;refine⟨b,off,rfl,h1,h2,h3,?_,?_,?_⟩
  ·exact World.block_lt_of_cell? w _ (by simpa [Addr.add]using h4 0 (by omega))
  ·intro i hi
   rw[←WideShapes.add_plain,h4 i (by omega)];simp[List.getD,hi]
  ·rw[List.length_take];omega
end Go.Proofs.YtdhibldkldlfpaaGreatDoor.Base
namespace Go.Proofs.YtdhibldkldlfpaaGreatDoor
theorem Qh {p:Prop} (h:p):Go.RowKit.Hid p:=h
theorem Qa {α:Type _} {a:α} {l:List α}:(a::l)[0]? =some a:=rfl
theorem Qb {α:Type _} {a:α} {l:List α} {i:Nat}:(a::l)[i+1]? =l[i]? :=rfl
theorem Qc {α:Type _} {xs:List α} {i:Nat}:xs.toArray[i]? =xs[i]? :=List.getElem?_toArray
theorem Qd {α:Type _} {l:List α} {i:Nat} (h:i<l.length):l[i]? =some l[i]:=List.getElem?_eq_getElem h
theorem Qe {α:Type _} {i:Nat} {l:List α}:(l.drop i).length=l.length - i:=List.length_drop
theorem Qf {α:Type _} {xs ys:List α}:(xs++ys).length=xs.length+ys.length:=List.length_append
theorem Qg {α:Type _} {i:Nat} {l:List α}:(l.take i).length=min i l.length:=List.length_take
theorem Qi {α β:Type _} {xs:List α} (f:α→β):(xs.map f).length=xs.length:=List.length_map f
theorem Qj {α:Type _} {xs:Array α} {b:α} {i:Nat}:xs[i]? =some b↔∃h:i<xs.size,xs[i]=b:=Array.getElem?_eq_some_iff
theorem Qk (n:Nat):n≤n:=Nat.le_refl n
theorem Ql {α:Type _} {a:α} {i:Nat} {l:List α}:l[i]? =some a↔∃h:i<l.length,l[i]=a:=List.getElem?_eq_some_iff
end Go.Proofs.YtdhibldkldlfpaaGreatDoor
end
namespace Go.Proofs.YtdhibldkldlfpaaGreatDoor
set_option linter.unusedVariables false
open Go.ChangeShapes Go.WideShapes Go.ChangeAt Go.RowKit Base Go.Lib
namespace bJ
variable {xs:List Int} {k:Nat}
def cB (w:World) (p:Option Addr) (n:Nat) (bs:List UInt8):Prop:=
 0<n→∃b o,p=some ⟨b,o,none⟩∧∀i,i<n→w.cell? ⟨b,o+i,none⟩=some (.int .u8 (bs.getD i 0).toNat)
section
variable {w w':World} {p:Option Addr} {n:Nat} {bs:List UInt8}
theorem cB.cell (h:cB w p n bs) (hk:k<n):
 ∃b o,p=some ⟨b,o,none⟩∧b<w.heap.size∧∀i,i<n→w.cell? ⟨b,o+i,none⟩=some (.int .u8 (bs.getD i 0).toNat):=by
 obtain⟨b,o,rfl,hc⟩:=h (by omega);exact⟨b,o,rfl,World.block_lt_of_cell? _ _ (hc k hk),hc⟩
theorem cB.below (h:cB w p n bs) (hb:Below w.heap.size w w'):cB w' p n bs:=fun A=>by
 obtain⟨b,o,rfl,B,hc⟩:=h.cell A;exact⟨b,o,rfl,fun i hi=>by rw[hb.cell (p:=⟨b,o+i,none⟩) B];exact hc i hi⟩
theorem cB.none_ (w:World) (p:Option Addr):cB w p 0 []:=fun h=>absurd h (by omega)
theorem cB.alloc (h:cB w p n bs) (o:Obj):cB (w.alloc o) p n bs:=h.below ((Below.refl _ _).alloc (Qk _) o)
theorem cB.drop (h:cB w p n bs) {c:Nat} (hk:k≤n) (hc:n≤c) (hl:bs.length=n):cB w (if c=k then p else p.map (·.add k)) (n - k) (bs.drop k):=fun A=>by
 obtain⟨b,o,rfl,hcell⟩:=h (by omega);rw[if_neg (by omega)];refine⟨b,o+k,by simp[WideShapes.add_plain],fun i hi=>?_⟩;rw[Nat.add_assoc,hcell (k+i) (by omega)];simp[List.getD]
theorem cB.take (h:cB w p n bs) (hk:k≤n):cB w p k (bs.take k):=fun A=>by
 obtain⟨b,o,rfl,hc⟩:=h (by omega);exact⟨b,o,rfl,fun i hi=>by rw[hc i (by omega)];simp[List.getD,hi]⟩
end
theorem L5 (x:UInt8):0≤(x.toNat:Int)∧(x.toNat:Int)≤255:=by have:=x.toNat_lt;omega
theorem xo (xs:List Int) (i:Nat) (h:i<xs.length) (hx:∀x∈xs,0≤x∧x<256):(((bytesOf xs).getD i 0).toNat:Int)=xs.getD i 0:=by
 have hm:=hx xs[i] (List.getElem_mem h);have e:(bytesOf xs).getD i 0=UInt8.ofNat (xs[i]).toNat:=by simp[bytesOf,List.getD,h]
 rw[e,UInt8.toNat_ofNat'];simp[List.getD,h];omega
theorem wf8 {n:Int} (h:(Lit.int .u8 n).wf=true):0≤n∧n<256:=by
 have h1:IntKind.u8.min=0:=rfl;have A:IntKind.u8.max=255:=rfl;simp only[Lit.wf,Bool.and_eq_true,decide_eq_true_eq]at h;omega
theorem qh {w:World} {p:Option Addr} {n:Nat} (hn:xs.length=n) (hx:∀x∈xs,0≤x∧x<256)
 (h:0<n→∃b o,p=some ⟨b,o,none⟩∧∀i,i<n→w.cell? ⟨b,o+i,none⟩=some (.int .u8 (xs.getD i 0))):cB w p n (bytesOf xs):=fun A=>by
 obtain⟨b,o,rfl,hc⟩:=h A;exact⟨b,o,rfl,fun i hi=>by rw[hc i hi,xo xs i (by omega) hx]⟩
theorem BR {w:World} {a:Option Addr} {len cap:Nat} {zs:List Int} (h:Jt .u8 w a len cap zs):cB w a len (bytesOf (zs.take len))∧(bytesOf (zs.take len)).length=len∧len≤cap∧cap≤maxLen:=by
 have E:∀x∈zs.take len,0≤x∧x<256:=fun x A=>by
  rcases h with⟨_,_,_,rfl⟩|⟨_,_,_,_,_,_,h⟩
  ·simp at A
  ·exact wf8 (h x (List.mem_of_mem_take A))
 have hl:(zs.take len).length=len∧len≤cap∧cap≤maxLen:=by
  rcases h with⟨_,rfl,rfl,rfl⟩|⟨_,_,h1,h2,h3,_,_⟩
  ·exact⟨rfl,by omega,by omega⟩
  ·exact⟨by rw[Qg];omega,h1,h2⟩
 refine⟨qh hl.1 E fun B=>?_,by rw[bytesOf_length];exact hl.1,hl.2.1,hl.2.2⟩;obtain⟨b,off,rfl,_,_,_,_,D,_⟩:=Rr h B;exact⟨b,off,rfl,D⟩
theorem yZ (bs:List UInt8):strOfNums (bs.map fun x=>(x.toNat:Int))=⟨bs.toArray⟩:=by
 apply ByteArray.ext;apply Array.toList_inj.1;rw[strOfNums_data,List.map_map];show _=bs
 conv=>rhs;rw[←List.map_id bs]
 apply List.map_congr_left;intro x _;simp
theorem cD {P:Program} {w:World} {p:Option Addr} {n:Nat} {bs:List UInt8} (h:cB w p n bs) (hn:bs.length=n) (src e dst:TypeId) (hs:P.underlying src=some (.slice e)) (he:P.underlying e=some (.int .u8)) (hd:P.underlying dst=some .string) (c:Nat):
 (convert src dst (.slice p n c)).run P w=.ok (.string ⟨bs.toArray⟩) w:=by
 by_cases A:0<n
 ·obtain⟨b,o,rfl,hc⟩:=h A
  rw[run_convert_bytes_arg w src e hs he b o n c (bs.map fun x=>(x.toNat:Int)) (by simpa using hn) (fun i hi=>by
   rw[hc i hi];simp[List.getD,Qd (show i<bs.length by omega)]) dst hd,yZ]
 ·obtain rfl:n=0:=by omega
  obtain rfl:bs=[]:=List.eq_nil_of_length_eq_zero hn;rcases p with _|a
  ·rw[run_convert_bytes_nil w src e hs he 0 c dst hd];rfl
  ·have hl:(loadCells a 0).run P w=.ok (([]:List Int).map (Value.int .u8)).toArray w:=by
    have:=run_loadCells_list (P:=P) w a [] (fun j v B=>by simp at B)
    simpa using this
   rw[run_convert_bytes_string w src dst e _ 0 c hs he hd,run_bytesToString w a 0 c [] hl];rfl
theorem nB {w:World} {base:Nat} {e:TypeId} {v:Value} {n:Nat} (h:w.ownsRow base e 1 v n (xs.map (Value.int .u8))) (hx:∀x∈xs,0≤x∧x<256):
 ∃p c,v=.slice p n c∧n≤c∧c≤maxLen∧cB w p n (bytesOf xs)∧(bytesOf xs).length=n:=by
 have hl:xs.length=n:=by have:=h.1;simpa using this
 have A:(bytesOf xs).length=n:=by rw[bytesOf_length];exact hl
 rcases h.2 with⟨rfl,rfl⟩|⟨g,cap,cur,rfl,_,_,h1,h2,_⟩
 ·exact⟨none,0,rfl,by omega,by omega,fun h=>absurd h (by omega),A⟩
 ·refine⟨some ⟨g,0,none⟩,cap,rfl,h1,h2,qh hl hx fun B=>⟨g,0,rfl,fun i hi=>?_⟩,A⟩
  rw[Nat.zero_add,h.cellAt i (by omega),List.getElem?_map,Qd (by omega)];simp[List.getD,hl,hi]
end bJ
namespace cn
open bJ
def str (l:List UInt8):ByteArray:=⟨l.toArray⟩
theorem bg (l:List UInt8):(str l).data.toList=l:=by simp[str]
theorem nQ (s:ByteArray):str s.data.toList=s:=by
 apply ByteArray.ext;simp[str]
theorem aq (l:List UInt8):(str l).size=l.length:=by simp[str,ByteArray.size]
theorem eM (a b:List UInt8):str a++str b=str (a++b):=by
 apply ByteArray.ext;simp[str,ByteArray.data_append]
theorem str_inj {a b:List UInt8} (h:str a=str b):a=b:=by
 have:=congrArg (fun s:ByteArray=>s.data.toList) h
 simpa [bg]using this
theorem jI (s:ByteArray):s.size=s.data.toList.length:=Lib.size_eq s
theorem ay (l:List UInt8):(str l).toList=l:=by rw[Lib.toList_data,bg]
theorem Oo (a b:List UInt8):(str a==str b)=decide (a=b):=by
 by_cases h:a=b
 ·subst h
  simpa using (MapKept.bytes_beq (str a) (str a)).2 rfl
 ·cases hc:str a==str b with
  |true=>exact absurd (str_inj ((MapKept.bytes_beq _ _).1 hc)) h
  |false=>simpa using h
theorem aV (l:List UInt8):(str l).toList.isEmpty=decide (l=[]):=by
 rw[ay]
 cases l<;>simp
theorem il (l c:List UInt8):((str l).toList==c)=decide (l=c):=by
 rw[ay]
 by_cases h:l=c
 ·subst h;simp
 ·simp[h]
theorem ue (l:List UInt8) (k:Nat):(str l).extract 0 k=str (l.take k):=by
 apply ByteArray.ext;simp[str,ByteArray.data_extract]
theorem ud (l:List UInt8) (k n:Nat) (h:n=l.length):(str l).extract k n=str (l.drop k):=by
 subst h;apply ByteArray.ext;simp[str,ByteArray.data_extract,List.take_of_length_le]
theorem pJ (l:List UInt8) (c:UInt8):decide (0≤Lib.indexByte l c)=l.contains c:=by
 induction l with
 |nil=>simp[Lib.indexByte]
 |cons b l ih=>
  have E:=Lib.indexByte_ge l c
  by_cases A:b=c
  ·subst A
   simp[Lib.indexByte]
  ·have B:(b==c)=false:=by simpa using A
   by_cases hi:Lib.indexByte l c=-1
   ·have e:Lib.indexByte (b::l) c=-1:=by simp[Lib.indexByte,B,hi]
    rw[hi]at ih;rw[e,List.contains_cons,←ih]
    simpa using fun h=>A h.symm
   ·have D:(Lib.indexByte l c==-1)=false:=by simpa using hi
    have e:Lib.indexByte (b::l) c=Lib.indexByte l c+1:=by simp[Lib.indexByte,B,D]
    rw[List.contains_cons,←ih,e,decide_eq_true (by omega),decide_eq_true (by omega),Bool.or_true]
theorem GL {l:List UInt8} {c:UInt8} (h:l.contains c=false) (i:Nat) (hi:i<l.length):l.getD i 0≠c:=fun e=>by
 have hm:c∈l:=by
  rw[←e,List.getD,Qd hi];exact List.getElem_mem hi
 have:=List.contains_iff_mem.2 hm;rw[h]at this
 cases this
end cn
end Go.Proofs.YtdhibldkldlfpaaGreatDoor
section
namespace Go.Proofs.YtdhibldkldlfpaaGreatDoor.Hp
structure ak where
 name:List UInt8
 link:List UInt8
 kind:UInt8
 mode:Int
 uid:Int
 gid:Int
 time:Int
 size:Int
 fh:Bool
def bG:ak:=⟨[],[],0,0,0,0,0,0,false⟩
def jV (h:ak):Nat→Int
 |1=>h.mode|2=>h.uid|3=>h.gid|4=>h.size|5=>h.time|_=>0
deriving instance DecidableEq for ak
end Go.Proofs.YtdhibldkldlfpaaGreatDoor.Hp
namespace Go.Proofs.YtdhibldkldlfpaaGreatDoor.Head
open Go.ChangeShapes Go.WideShapes Go.ChangeAt Go.RowKit Base bJ cn Hp Go.Lib
set_option linter.unusedVariables false
set_option maxRecDepth 100000
theorem fJ {w:World} {g:Nat} {cs:Array Value} {e:TypeId} (h:w.heap[g]? =some (.cells cs e (0,0))) (i:Nat):w.cell? ⟨g,i,none⟩=cs[i]? :=by
 simp[World.cell?,h]
def aa (h:ak):Array Value:=#[.string (str h.name),.string (str h.link),.int .u8 (h.kind.toNat:Int),.int .i64 h.mode,.int .i64 h.uid,.int .i64 h.gid,.int .i64 h.time,.int .i64 h.size,.bool h.fh]
def j8 (x:ak × Int):Value:=.tuple #[.agg (aa x.1),.int .i64 x.2]
theorem mP (w:World) (g:Nat) (a b:ByteArray) (k m u i t z:Int) (n:Bool) (h:w.heap[g]? =some (.cells #[.string a,.string b,.int .u8 k,.int .i64 m,.int .i64 u,.int .i64 i,.int .i64 t,.int .i64 z,.bool n] 66 (0,0))):
 (loadVar 66 ⟨g,0,none⟩).run Tryz.prog w=.ok (.agg #[.string a,.string b,.int .u8 k,.int .i64 m,.int .i64 u,.int .i64 i,.int .i64 t,.int .i64 z,.bool n]) w:=by
 have c0:=fJ h 0;have c1:=fJ h 1;have c2:=fJ h 2;have c3:=fJ h 3;have c4:=fJ h 4;have c5:=fJ h 5;have c6:=fJ h 6;have c7:=fJ h 7;have A:=fJ h 8;clear h
 go_simp
end Go.Proofs.YtdhibldkldlfpaaGreatDoor.Head
end
namespace Go.Proofs.YtdhibldkldlfpaaGreatDoor
set_option linter.unusedVariables false
set_option maxHeartbeats 4000000
set_option maxRecDepth 100000
open Go.ChangeShapes Go.WideShapes Go.ChangeAt Go.RowKit Base
namespace Path
open bJ cn Go.Lib
theorem mF (s:ByteArray) (k m:Nat) (h:k+m<s.size):at_ (s.data.toList.drop k) m=(s[k+m]).toNat:=by
 unfold at_;have A:k+m<s.data.toList.length:=by rw[←jI];exact h
 simp only[List.getD,List.getElem?_drop];rw[Qd A];rfl
theorem Oq (l:List UInt8) (hl:l≠[]) (h:¬b7 l):aQ l=false:=by rw[ea l hl,if_neg h]
theorem LZ (l:List UInt8) (hl:l≠[]) (h:b7 l):aQ l=aQ (l.drop (bt (at_ l 0))):=by rw[ea l hl,if_pos h]
theorem wL (s:ByteArray) (w:World) (hm:s.size≤140737488351232):
 Calls Tryz.prog 67 #[.string s] w fun e w'=>e=.returned (.bool (aQ s.data.toList))∧w=w':=by
 obtain⟨rR,hA⟩:∃rR,aQ s.data.toList=rR:=⟨_,rfl⟩
 rw[hA];have u:=Qh hA;clear hA
 go_enter Tryz.func67,Tryz.ntmps67
 go_wp2
 go_loop [3] (fun i=>∃(k:Nat),k≤s.size∧i=.int .i64 k∧Hid (aQ (s.data.toList.drop k)=rR)) (fun i=>s.size - (RowKit.intOf i).toNat)
 case atStart=>exact⟨0,Nat.zero_le _,rfl,Qh u.out⟩
 case round=>
  obtain⟨k,hk,rfl,r⟩:=hrel
  by_cases ax:k<s.size
  ·have L:Hid ((s.data.toList.drop k).length=s.size - k):=Qh (by rw[Qe,←jI])
   have t:Hid (s.data.toList.drop k≠[]):=Qh (fun e=>by have:=L.out;rw[e]at this;simp at this;omega);obtain⟨C,q⟩:∃C:Nat,(s[k]).toNat=C:=⟨_,rfl⟩
   have WS:((s[k]).toNat:Int)=(C:Int):=by rw[q]
   have Zu:(C:Int)≤255:=by have:=(s[k]).toNat_lt;omega
   have B:Hid (at_ (s.data.toList.drop k) 0=C):=Qh (by rw[mF s k 0 (by omega)];exact q);have H:Hid (¬b7 (s.data.toList.drop k)→rR=false):=Qh (fun h=>by rw[←r.out];exact Oq _ t.out h)
   have V:Hid (∀N,bt C=N→b7 (s.data.toList.drop k)→aQ (s.data.toList.drop (k+N))=rR):=Qh (fun N d h=>by
    rw[←r.out,LZ _ t.out h,B.out,d,List.drop_drop])
   clear q
   by_cases E:(C:Int)=0
   ·obtain rfl:rR=false:=H.out (fun h=>h.1 (by rw[B.out,show C=0 by omega];rfl))
    have y:((C:Int)==0)=true:=by simpa using E
    clear E;go_wp2;go_ret;exact⟨rfl,rfl⟩
   ·have y:((C:Int)==0)=false:=by simpa using E
    by_cases h1:(C:Int)<128
    ·have A:Hid (bt C=1):=Qh (by unfold bt;rw[if_neg (by omega),if_pos (by omega)])
     by_cases d:k+1≤s.size
     ·have Y:¬((s.size:Int) - (k:Int)<1):=by omega
      go_wp2
      go_loop [6] (fun i=>∃(j:Nat),1≤j∧j≤1∧i=.int .i64 j∧Hid (∀m,0<m→m<j→cg (at_ (s.data.toList.drop k) m))) (fun i=>1 - (RowKit.intOf i).toNat)
      case atStart=>exact⟨1,by omega,by omega,rfl,Qh (fun m h1 U=>by omega)⟩
      case round=>
       obtain⟨j,W,X,rfl,J⟩:=hrel
       by_cases M:j<1
       ·omega
       ·obtain rfl:j=1:=by omega
        clear M W X;have I:Hid (b7 (s.data.toList.drop k)):=Qh ⟨by rw[B.out,A.out];omega,by rw[B.out,A.out,L.out];omega,fun m hm E=>J.out m E (by rw[B.out,A.out]at hm;omega),by rw[B.out,A.out];unfold dx;omega⟩;go_wp2
        go_round
        case rel=>exact⟨k+1,by omega,by go_num,Qh (V.out 1 A.out I.out)⟩
        case measure=>simp[RowKit.intOf];omega
     ·have Y:(s.size:Int) - (k:Int)<1:=by omega
      obtain rfl:rR=false:=H.out (fun h=>by have h1:=h.2.1;rw[B.out,A.out,L.out]at h1;omega);go_wp2;go_ret;exact⟨rfl,rfl⟩
    ·by_cases U:(194:Int)≤(C:Int)
     ·by_cases Z:(C:Int)<224
      ·have A:Hid (bt C=2):=Qh (by unfold bt;rw[if_neg (by omega),if_neg (by omega),if_pos (by omega)])
       by_cases d:k+2≤s.size
       ·have Y:¬((s.size:Int) - (k:Int)<2):=by omega
        go_wp2
        go_loop [6] (fun i=>∃(j:Nat),1≤j∧j≤2∧i=.int .i64 j∧Hid (∀m,0<m→m<j→cg (at_ (s.data.toList.drop k) m))) (fun i=>2 - (RowKit.intOf i).toNat)
        case atStart=>exact⟨1,by omega,by omega,rfl,Qh (fun m h1 U=>by omega)⟩
        case round=>
         obtain⟨j,W,X,rfl,J⟩:=hrel
         by_cases M:j<2
         ·have b:k+j<s.size:=by omega
          obtain⟨D,G⟩:∃D:Nat,(s[k+j]).toNat=D:=⟨_,rfl⟩
          have g:((s[k+j]).toNat:Int)=(D:Int):=by rw[G]
          have R:Hid (at_ (s.data.toList.drop k) j=D):=Qh (by rw[mF s k j b];exact G);have l:(D:Int)≤255:=by have:=(s[k+j]).toNat_lt;omega
          clear G
          by_cases g1:(D:Int)<128
          ·obtain rfl:rR=false:=H.out (fun h=>by have h1:=h.2.2.1 j (by rw[B.out,A.out];exact M) (by omega);rw[R.out]at h1;unfold cg at h1;omega)
           go_wp2;go_ret;exact⟨rfl,rfl⟩
          ·by_cases g2:(191:Int)<(D:Int)
           ·obtain rfl:rR=false:=H.out (fun h=>by have h1:=h.2.2.1 j (by rw[B.out,A.out];exact M) (by omega);rw[R.out]at h1;unfold cg at h1;omega)
            go_wp2;go_ret;exact⟨rfl,rfl⟩
           ·have c:Hid (∀m,0<m→m<j+1→cg (at_ (s.data.toList.drop k) m)):=Qh (fun m h1 U=>by
             rcases Nat.lt_succ_iff_lt_or_eq.1 U with Z|rfl
             ·exact J.out m h1 Z
             ·rw[R.out];unfold cg;omega)
            go_wp2
            go_round
            case rel=>exact⟨j+1,by omega,by omega,by go_num,c⟩
            case measure=>simp[RowKit.intOf];omega
         ·obtain rfl:j=2:=by omega
          clear M W X;have I:Hid (b7 (s.data.toList.drop k)):=Qh ⟨by rw[B.out,A.out];omega,by rw[B.out,A.out,L.out];omega,fun m hm E=>J.out m E (by rw[B.out,A.out]at hm;omega),by rw[B.out,A.out];unfold dx;omega⟩;go_wp2
          go_round
          case rel=>exact⟨k+2,by omega,by go_num,Qh (V.out 2 A.out I.out)⟩
          case measure=>simp[RowKit.intOf];omega
       ·have Y:(s.size:Int) - (k:Int)<2:=by omega
        obtain rfl:rR=false:=H.out (fun h=>by have h1:=h.2.1;rw[B.out,A.out,L.out]at h1;omega);go_wp2;go_ret;exact⟨rfl,rfl⟩
      ·have z:(224:Int)≤(C:Int):=by omega
       by_cases h5:(C:Int)<240
       ·have A:Hid (bt C=3):=Qh (by unfold bt;rw[if_neg (by omega),if_neg (by omega),if_neg (by omega),if_pos (by omega)])
        by_cases d:k+3≤s.size
        ·have Y:¬((s.size:Int) - (k:Int)<3):=by omega
         go_wp2
         go_loop [6] (fun i=>∃(j:Nat),1≤j∧j≤3∧i=.int .i64 j∧Hid (∀m,0<m→m<j→cg (at_ (s.data.toList.drop k) m))) (fun i=>3 - (RowKit.intOf i).toNat)
         case atStart=>exact⟨1,by omega,by omega,rfl,Qh (fun m h1 U=>by omega)⟩
         case round=>
          obtain⟨j,W,X,rfl,J⟩:=hrel
          by_cases M:j<3
          ·have b:k+j<s.size:=by omega
           obtain⟨D,G⟩:∃D:Nat,(s[k+j]).toNat=D:=⟨_,rfl⟩
           have g:((s[k+j]).toNat:Int)=(D:Int):=by rw[G]
           have R:Hid (at_ (s.data.toList.drop k) j=D):=Qh (by rw[mF s k j b];exact G);have l:(D:Int)≤255:=by have:=(s[k+j]).toNat_lt;omega
           clear G
           by_cases g1:(D:Int)<128
           ·obtain rfl:rR=false:=H.out (fun h=>by have h1:=h.2.2.1 j (by rw[B.out,A.out];exact M) (by omega);rw[R.out]at h1;unfold cg at h1;omega)
            go_wp2;go_ret;exact⟨rfl,rfl⟩
           ·by_cases g2:(191:Int)<(D:Int)
            ·obtain rfl:rR=false:=H.out (fun h=>by have h1:=h.2.2.1 j (by rw[B.out,A.out];exact M) (by omega);rw[R.out]at h1;unfold cg at h1;omega)
             go_wp2;go_ret;exact⟨rfl,rfl⟩
            ·have c:Hid (∀m,0<m→m<j+1→cg (at_ (s.data.toList.drop k) m)):=Qh (fun m h1 U=>by
              rcases Nat.lt_succ_iff_lt_or_eq.1 U with Z|rfl
              ·exact J.out m h1 Z
              ·rw[R.out];unfold cg;omega)
             go_wp2
             go_round
             case rel=>exact⟨j+1,by omega,by omega,by go_num,c⟩
             case measure=>simp[RowKit.intOf];omega
          ·obtain rfl:j=3:=by omega
           clear M W X;have o:k+1<s.size:=by omega
           obtain⟨O,G⟩:∃D:Nat,(s[k+1]).toNat=D:=⟨_,rfl⟩
           have g:((s[k+1]).toNat:Int)=(O:Int):=by rw[G]
           have T:Hid (at_ (s.data.toList.drop k) 1=O):=Qh (by rw[mF s k 1 o];exact G);have l:(O:Int)≤255:=by have:=(s[k+1]).toNat_lt;omega
           clear G
           by_cases c1:(C:Int)=224
           ·have p:((C:Int)==224)=true:=by simpa using c1
            have f:((C:Int)==237)=false:=by simp;omega
            by_cases g1:(O:Int)<160
            ·obtain rfl:rR=false:=H.out (fun h=>by have h1:=h.2.2.2;rw[B.out,A.out,T.out]at h1;unfold dx at h1;omega)
             go_wp2;go_ret;exact⟨rfl,rfl⟩
            ·have I:Hid (b7 (s.data.toList.drop k)):=Qh ⟨by rw[B.out,A.out];omega,by rw[B.out,A.out,L.out];omega,fun m hm E=>J.out m E (by rw[B.out,A.out]at hm;omega),by rw[B.out,A.out,T.out];unfold dx;omega⟩
             go_wp2
             go_round
             case rel=>exact⟨k+3,by omega,by go_num,Qh (V.out 3 A.out I.out)⟩
             case measure=>simp[RowKit.intOf];omega
           ·have p:((C:Int)==224)=false:=by simpa using c1
            by_cases c2:(C:Int)=237
            ·have f:((C:Int)==237)=true:=by simpa using c2
             by_cases g1:(159:Int)<(O:Int)
             ·obtain rfl:rR=false:=H.out (fun h=>by have h1:=h.2.2.2;rw[B.out,A.out,T.out]at h1;unfold dx at h1;omega)
              go_wp2;go_ret;exact⟨rfl,rfl⟩
             ·have I:Hid (b7 (s.data.toList.drop k)):=Qh ⟨by rw[B.out,A.out];omega,by rw[B.out,A.out,L.out];omega,fun m hm E=>J.out m E (by rw[B.out,A.out]at hm;omega),by rw[B.out,A.out,T.out];unfold dx;omega⟩
              go_wp2
              go_round
              case rel=>exact⟨k+3,by omega,by go_num,Qh (V.out 3 A.out I.out)⟩
              case measure=>simp[RowKit.intOf];omega
            ·have f:((C:Int)==237)=false:=by simpa using c2
             have I:Hid (b7 (s.data.toList.drop k)):=Qh ⟨by rw[B.out,A.out];omega,by rw[B.out,A.out,L.out];omega,fun m hm E=>J.out m E (by rw[B.out,A.out]at hm;omega),by rw[B.out,A.out,T.out];unfold dx;omega⟩;go_wp2
             go_round
             case rel=>exact⟨k+3,by omega,by go_num,Qh (V.out 3 A.out I.out)⟩
             case measure=>simp[RowKit.intOf];omega
        ·have Y:(s.size:Int) - (k:Int)<3:=by omega
         obtain rfl:rR=false:=H.out (fun h=>by have h1:=h.2.1;rw[B.out,A.out,L.out]at h1;omega);go_wp2;go_ret;exact⟨rfl,rfl⟩
       ·have h6:(240:Int)≤(C:Int):=by omega
        by_cases h7:(C:Int)<245
        ·have A:Hid (bt C=4):=Qh (by unfold bt;rw[if_neg (by omega),if_neg (by omega),if_neg (by omega),if_neg (by omega),if_pos (by omega)])
         by_cases d:k+4≤s.size
         ·have Y:¬((s.size:Int) - (k:Int)<4):=by omega
          go_wp2
          go_loop [6] (fun i=>∃(j:Nat),1≤j∧j≤4∧i=.int .i64 j∧Hid (∀m,0<m→m<j→cg (at_ (s.data.toList.drop k) m))) (fun i=>4 - (RowKit.intOf i).toNat)
          case atStart=>exact⟨1,by omega,by omega,rfl,Qh (fun m h1 U=>by omega)⟩
          case round=>
           obtain⟨j,W,X,rfl,J⟩:=hrel
           by_cases M:j<4
           ·have b:k+j<s.size:=by omega
            obtain⟨D,G⟩:∃D:Nat,(s[k+j]).toNat=D:=⟨_,rfl⟩
            have g:((s[k+j]).toNat:Int)=(D:Int):=by rw[G]
            have R:Hid (at_ (s.data.toList.drop k) j=D):=Qh (by rw[mF s k j b];exact G);have l:(D:Int)≤255:=by have:=(s[k+j]).toNat_lt;omega
            clear G
            by_cases g1:(D:Int)<128
            ·obtain rfl:rR=false:=H.out (fun h=>by have h1:=h.2.2.1 j (by rw[B.out,A.out];exact M) (by omega);rw[R.out]at h1;unfold cg at h1;omega)
             go_wp2;go_ret;exact⟨rfl,rfl⟩
            ·by_cases g2:(191:Int)<(D:Int)
             ·obtain rfl:rR=false:=H.out (fun h=>by have h1:=h.2.2.1 j (by rw[B.out,A.out];exact M) (by omega);rw[R.out]at h1;unfold cg at h1;omega)
              go_wp2;go_ret;exact⟨rfl,rfl⟩
             ·have c:Hid (∀m,0<m→m<j+1→cg (at_ (s.data.toList.drop k) m)):=Qh (fun m h1 U=>by
               rcases Nat.lt_succ_iff_lt_or_eq.1 U with Z|rfl
               ·exact J.out m h1 Z
               ·rw[R.out];unfold cg;omega)
              go_wp2
              go_round
              case rel=>exact⟨j+1,by omega,by omega,by go_num,c⟩
              case measure=>simp[RowKit.intOf];omega
           ·obtain rfl:j=4:=by omega
            clear M W X;have o:k+1<s.size:=by omega
            obtain⟨O,G⟩:∃D:Nat,(s[k+1]).toNat=D:=⟨_,rfl⟩
            have g:((s[k+1]).toNat:Int)=(O:Int):=by rw[G]
            have T:Hid (at_ (s.data.toList.drop k) 1=O):=Qh (by rw[mF s k 1 o];exact G);have l:(O:Int)≤255:=by have:=(s[k+1]).toNat_lt;omega
            clear G
            by_cases c1:(C:Int)=240
            ·have p:((C:Int)==240)=true:=by simpa using c1
             have f:((C:Int)==244)=false:=by simp;omega
             by_cases g1:(O:Int)<144
             ·obtain rfl:rR=false:=H.out (fun h=>by have h1:=h.2.2.2;rw[B.out,A.out,T.out]at h1;unfold dx at h1;omega)
              go_wp2;go_ret;exact⟨rfl,rfl⟩
             ·have I:Hid (b7 (s.data.toList.drop k)):=Qh ⟨by rw[B.out,A.out];omega,by rw[B.out,A.out,L.out];omega,fun m hm E=>J.out m E (by rw[B.out,A.out]at hm;omega),by rw[B.out,A.out,T.out];unfold dx;omega⟩
              go_wp2
              go_round
              case rel=>exact⟨k+4,by omega,by go_num,Qh (V.out 4 A.out I.out)⟩
              case measure=>simp[RowKit.intOf];omega
            ·have p:((C:Int)==240)=false:=by simpa using c1
             by_cases c2:(C:Int)=244
             ·have f:((C:Int)==244)=true:=by simpa using c2
              by_cases g1:(143:Int)<(O:Int)
              ·obtain rfl:rR=false:=H.out (fun h=>by have h1:=h.2.2.2;rw[B.out,A.out,T.out]at h1;unfold dx at h1;omega)
               go_wp2;go_ret;exact⟨rfl,rfl⟩
              ·have I:Hid (b7 (s.data.toList.drop k)):=Qh ⟨by rw[B.out,A.out];omega,by rw[B.out,A.out,L.out];omega,fun m hm E=>J.out m E (by rw[B.out,A.out]at hm;omega),by rw[B.out,A.out,T.out];unfold dx;omega⟩
               go_wp2
               go_round
               case rel=>exact⟨k+4,by omega,by go_num,Qh (V.out 4 A.out I.out)⟩
               case measure=>simp[RowKit.intOf];omega
             ·have f:((C:Int)==244)=false:=by simpa using c2
              have I:Hid (b7 (s.data.toList.drop k)):=Qh ⟨by rw[B.out,A.out];omega,by rw[B.out,A.out,L.out];omega,fun m hm E=>J.out m E (by rw[B.out,A.out]at hm;omega),by rw[B.out,A.out,T.out];unfold dx;omega⟩;go_wp2
              go_round
              case rel=>exact⟨k+4,by omega,by go_num,Qh (V.out 4 A.out I.out)⟩
              case measure=>simp[RowKit.intOf];omega
         ·have Y:(s.size:Int) - (k:Int)<4:=by omega
          obtain rfl:rR=false:=H.out (fun h=>by have h1:=h.2.1;rw[B.out,A.out,L.out]at h1;omega);go_wp2;go_ret;exact⟨rfl,rfl⟩
        ·have A:Hid (bt C=0):=Qh (by unfold bt;rw[if_neg (by omega),if_neg (by omega),if_neg (by omega),if_neg (by omega),if_neg (by omega)])
         obtain rfl:rR=false:=H.out (fun h=>h.1 (by rw[B.out,A.out]));go_wp2;go_ret;exact⟨rfl,rfl⟩
     ·have z:¬(224:Int)≤(C:Int):=by omega
      have h6:¬(240:Int)≤(C:Int):=by omega
      have A:Hid (bt C=0):=Qh (by unfold bt;rw[if_neg (by omega),if_neg (by omega),if_neg (by omega),if_neg (by omega),if_neg (by omega)]);obtain rfl:rR=false:=H.out (fun h=>h.1 (by rw[B.out,A.out]));go_wp2;go_ret;exact⟨rfl,rfl⟩
  ·obtain rfl:k=s.size:=by omega
   have hl:¬((s.size:Int)<(s.size:Int)):=by omega
   obtain rfl:true=rR:=by rw[←r.out,List.drop_eq_nil_of_le (by rw[←jI];exact Qk _)];rfl
   go_wp2;go_ret;exact⟨rfl,rfl⟩
end Path
namespace Rec
open bJ cn Path Go.Lib
def uk (r:Option Nat):Value:=match r with
 |some n=>.tuple #[.int .i64 (n:Int),.bool true]
 |none=>.tuple #[.int .i64 0,.bool false]
theorem su (w:World) (t:TypeId) (a b:Value):(w.alloc (.cells #[a,b] t)).cell? ⟨w.heap.size,0,none⟩=some a∧(w.alloc (.cells #[a,b] t)).cell? ⟨w.heap.size,1,none⟩=some b:=by
 have h:=heap_alloc_new w (.cells #[a,b] t);unfold World.cell?;rw[h];exact⟨rfl,rfl⟩
end Rec
namespace Path
open bJ cn Go.Lib
theorem Ll (l:List UInt8) (a i:Nat) (ha:a≤i) (hi:i<l.length) (hn:∀j,a≤j→j<i→l.getD j 0≠47) (h:l.getD i 0=47):
 aC (l.drop a)=(l.drop a).take (i - a)::aC (l.drop (i+1)):=by
 have e:l.drop a=(l.drop a).take (i - a)++47::l.drop (i+1):=by
  have h1:(l.drop a).drop (i - a)=47::l.drop (i+1):=by
   rw[List.drop_drop,show a+(i - a)=i by omega,List.drop_eq_getElem_cons hi]
   congr 1
   rw[←h,List.getD,Qd hi];rfl
  rw[←h1,List.take_append_drop]
 have B:(47:UInt8)∉(l.drop a).take (i - a):=fun hm=>by
  obtain⟨j,A,he⟩:=List.mem_iff_getElem.1 hm;rw[Qg,Qe]at A;rw[List.getElem_take,List.getElem_drop]at he;refine hn (a+j) (by omega) (by omega) ?_;rw[List.getD,Qd (by omega),he];rfl
 rw[e,wu,jF _ B,←e];rfl
theorem H6 (l:List UInt8) (a:Nat) (ha:a≤l.length) (hn:∀j,a≤j→j<l.length→l.getD j 0≠47):aC (l.drop a)=[(l.drop a).take (l.length - a)]:=by
 have e:(l.drop a).take (l.length - a)=l.drop a:=List.take_of_length_le (by rw[Qe];exact Qk _);rw[e];refine jF _ fun hm=>?_
 obtain⟨j,A,he⟩:=List.mem_iff_getElem.1 hm;rw[Qe]at A;rw[List.getElem_drop]at he;refine hn (a+j) (by omega) (by omega) ?_;rw[List.getD,Qd (by omega),he];rfl
theorem pR (l:List UInt8) (a i:Nat) (hi:i≤l.length) (ha:a≤i):((l.drop a).take (i - a)).length=i - a:=by
 rw[Qg,Qe];omega
theorem Fq (s:ByteArray) (a i:Nat):s.extract a i=str ((s.data.toList.drop a).take (i - a)):=by
 apply ByteArray.ext;rw[←Array.toList_inj];simp[str,ByteArray.data_extract,List.extract_eq_take_drop]
def MF (s:ByteArray) (G:Option (List UInt8)) (i a:Nat) (out:List UInt8):Prop:=
 out.length≤a∧((a≤i∧i≤s.size∧(∀j,a≤j→j<i→s.data.toList.getD j 0≠47)∧xy out (aC (s.data.toList.drop a))=G)∨(i=s.size+1∧a≤i∧G=some out))
theorem vy (s:ByteArray) (G:Option (List UInt8)) (i a:Nat) (out p:List UInt8) (h:out.length≤a) (ha:a≤i) (hi:i≤s.size) (hn:∀j,a≤j→j<i→s.data.toList.getD j 0≠47)
 (hg:xy out (aC (s.data.toList.drop a))=G) (hp:p=(s.data.toList.drop a).take (i - a)) (he:i=s.size∨s.data.toList.getD i 0=47):
 (p=[46,46]→G=none)∧(p≠[46,46]→MF s G (i+1) (i+1) (bF out p)):=by
 have A:s.data.toList.length=s.size:=(jI s).symm;have I:p.length=i - a:=by rw[hp];exact pR _ _ _ (by rw[A];exact hi) ha
 have H:(bF out p).length≤i+1:=by
  unfold bF;split
  ·omega
  ·split
   ·omega
   ·rw[Qf,List.length_cons];omega
 by_cases E:i<s.size
 ·have B:s.data.toList.getD i 0=47:=by rcases he with h|h;omega;exact h
  rw[Ll _ a i ha (by rw[A];exact E) hn B,←hp]at hg;unfold xy at hg;refine⟨fun e=>by rw[if_pos e]at hg;exact hg.symm,fun e=>?_⟩;rw[if_neg e]at hg;exact⟨H,.inl ⟨Qk _,E,fun j h1 J=>by omega,hg⟩⟩
 ·obtain rfl:i=s.size:=by omega
  have D:=H6 s.data.toList a (by rw[A];exact ha) (by rw[A];exact hn);rw[A,←hp]at D;rw[D]at hg;unfold xy at hg;refine⟨fun e=>by rw[if_pos e]at hg;exact hg.symm,fun e=>?_⟩;rw[if_neg e]at hg;exact⟨H,.inr ⟨rfl,Qk _,hg.symm⟩⟩
theorem Dv (s:ByteArray) (w:World) (hm:s.size≤140737488351232):
 Calls Tryz.prog 37 #[.string s] w fun e w'=>e=.returned (.tuple #[.string (str (bz 9 6 s.data.toList).1),.int .i64 (bz 9 6 s.data.toList).2])∧w=w':=by
 have V:=wL s w (by omega);have E:s.data.toList.length=s.size:=(jI s).symm;obtain⟨R,B⟩:∃R,bz 9 6 s.data.toList=R:=⟨_,rfl⟩
 rw[B];unfold bz at B
 cases z:aQ s.data.toList with
 |false=>
  rw[z]at V B;rw[if_pos rfl]at B;subst B;clear E
  go_enter Tryz.func37,Tryz.ntmps37
  go_wp2_with (go_at_call 67;refine V.mono ?_;rintro e w' ⟨rfl,rfl⟩)
  go_ret2;exact⟨rfl,rfl⟩
 |true=>
  rw[z]at V B;rw[if_neg (by simp)]at B
  by_cases q:s.size=0
  ·have hl:s.data.toList=[]:=List.length_eq_zero_iff.1 (by rw[E];exact q)
   rw[hl,show([]:List UInt8).headD 47=47 from rfl,if_pos rfl]at B;subst B;have hb:s.toList.isEmpty=true:=by rw[Lib.toList_data,hl];rfl
   clear E q hl
   go_enter Tryz.func37,Tryz.ntmps37
   go_wp2_with (go_at_call 67;refine V.mono ?_;rintro e w' ⟨rfl,rfl⟩)
   go_ret2;exact⟨rfl,rfl⟩
  ·have h0:0<s.size:=by omega
   have hb:s.toList.isEmpty=false:=by
    rw[Lib.toList_data]
    cases hl:s.data.toList with
    |nil=>rw[hl]at E;simp at E;omega
    |cons _ _=>rfl
   have y:s.data.toList.headD 47=s[0]:=by
    have e:s.data.toList[0]'(by rw[E];exact h0)=s[0]:=rfl
    cases hl:s.data.toList with
    |nil=>rw[hl]at E;simp at E;omega
    |cons b t=>simp only[hl]at e;exact e
   rw[y]at B;clear y q
   by_cases hc:s[0]=47
   ·rw[if_pos hc]at B
    subst B;have R8:(((s[0]).toNat:Int)==47)=true:=by rw[hc];rfl
    clear hc E
    go_enter Tryz.func37,Tryz.ntmps37
    go_wp2_with (go_at_call 67;refine V.mono ?_;rintro e w' ⟨rfl,rfl⟩)
    go_ret2;exact⟨rfl,rfl⟩
   ·rw[if_neg hc]at B
    have R8:(((s[0]).toNat:Int)==47)=false:=by
     have:¬(s[0]).toNat=47:=fun e=>hc (UInt8.toNat_inj.1 e)
     simp;omega
    obtain⟨G,N⟩:∃G,xy [] (aC s.data.toList)=G:=⟨_,rfl⟩
    rw[N]at B;have c:=Qh B;have H0:Hid (MF s G 0 0 []):=Qh ⟨Qk _,.inl ⟨Qk _,Nat.zero_le _,fun j h1 A=>by omega,by rw[List.drop_zero];exact N⟩⟩;clear B N hc E
    go_enter Tryz.func37,Tryz.ntmps37
    go_wp2_with (go_at_call 67;refine V.mono ?_;rintro e w' ⟨rfl,rfl⟩)
    go_loop [4,5,6] (fun o at_ i=>∃(a k:Nat) (out:List UInt8),k≤s.size+1∧a≤k∧o=.string (str out)∧at_=.int .i64 a∧i=.int .i64 k∧Hid (MF s G k a out)) (fun _ _ i=>s.size+1 - (RowKit.intOf i).toNat)
    case atStart=>exact⟨0,0,[],by omega,by omega,rfl,rfl,rfl,H0⟩
    case round=>
     obtain⟨a,k,out,hk,Y,rfl,rfl,rfl,W⟩:=hrel
     by_cases Z:k≤s.size
     ·have u:out.length≤a∧(∀j,a≤j→j<k→s.data.toList.getD j 0≠47)∧xy out (aC (s.data.toList.drop a))=G:=by
       obtain⟨h1,⟨_,_,A,D⟩|⟨A,_⟩⟩:=W.out
       ·exact⟨h1,A,D⟩
       ·omega
      have L:=Qh u;clear W u
      by_cases ng:k<s.size
      ·have X:s[k]=s.data.toList.getD k 0:=(by rw[List.getD,Qd (show k<s.data.toList.length by rw[←jI];exact ng)];rfl)
       by_cases hc:s[k]=47
       ·have Xw:(((s[k]).toNat:Int)==47)=true:=by rw[hc];rfl
        have he:k=s.size∨s.data.toList.getD k 0=47:=.inr (by rw[←X];exact hc);clear X hc;obtain⟨p,M⟩:∃p,p=(s.data.toList.drop a).take (k - a):=⟨_,rfl⟩
        obtain⟨T,U⟩:=vy s G k a out p L.out.1 Y Z L.out.2.1 L.out.2.2 M he;have XK:s.extract a k=str p:=by rw[Fq,M]
        have r:(str out).size+1+(str p).size≤9223372036854775807:=by
         rw[aq,aq,M,pR _ _ _ (by rw[←jI];exact Z) Y];have:=L.out.1;omega
        have Yk:(str out).size+1≤9223372036854775807:=by omega
        have Yl:(str out++⟨#[47]⟩).size+(str p).size≤9223372036854775807:=by rw[ByteArray.size_append];exact r
        have Ym:(str out).size+(str p).size≤9223372036854775807:=by omega
        clear M he
        by_cases h1:p=[46,46]
        ·have f:((str p).toList==[46,46])=true:=by rw[il];simpa using h1
         have B:=c.out;rw[T h1]at B;simp only at B;subst B;clear h1 T U;go_wp2;go_ret2;exact⟨rfl,rfl⟩
        ·have f:((str p).toList==[46,46])=false:=by rw[il];simpa using h1
         have J:=Qh (U h1);clear h1 T U
         by_cases A:p=[]
         ·have g:(str p).toList.isEmpty=true:=by rw[aV];simpa using A
          have H:Hid (bF out p=out):=Qh (by unfold bF;rw[if_pos (.inl A)]);clear A;go_wp2
          go_round
          case rel=>exact⟨k+1,k+1,out,by omega,by omega,rfl,by go_num,by go_num,by have:=J.out;rw[H.out]at this;exact this⟩
          case measure=>simp[RowKit.intOf];omega
         ·have g:(str p).toList.isEmpty=false:=by rw[aV];simpa using A
          by_cases D:p=[46]
          ·have l:((str p).toList==[46])=true:=by rw[il];simpa using D
           have H:Hid (bF out p=out):=Qh (by unfold bF;rw[if_pos (.inr D)]);clear A D;go_wp2
           go_round
           case rel=>exact⟨k+1,k+1,out,by omega,by omega,rfl,by go_num,by go_num,by have:=J.out;rw[H.out]at this;exact this⟩
           case measure=>simp[RowKit.intOf];omega
          ·have l:((str p).toList==[46])=false:=by rw[il];simpa using D
           by_cases I:out=[]
           ·have m:(str out).toList.isEmpty=true:=by rw[aV];simpa using I
            have H:Hid (str out++str p=str (bF out p)):=Qh (by unfold bF;rw[if_neg (fun h=>h.elim A D),if_pos I,eM,I];rfl);clear A D I;go_wp2
            go_round
            case rel=>exact⟨k+1,k+1,bF out p,by omega,by omega,by rw[←H.out],by go_num,by go_num,J⟩
            case measure=>simp[RowKit.intOf];omega
           ·have m:(str out).toList.isEmpty=false:=by rw[aV];simpa using I
            have H:Hid (str out++⟨#[47]⟩++str p=str (bF out p)):=Qh (by unfold bF;rw[if_neg (fun h=>h.elim A D),if_neg I,show(⟨#[47]⟩:ByteArray)=str [47]from rfl,eM,eM];simp);clear A D I;go_wp2
            go_round
            case rel=>exact⟨k+1,k+1,bF out p,by omega,by omega,by rw[←H.out],by go_num,by go_num,J⟩
            case measure=>simp[RowKit.intOf];omega
       ·have Xw:(((s[k]).toNat:Int)==47)=false:=by
         have:¬(s[k]).toNat=47:=fun e=>hc (UInt8.toNat_inj.1 e)
         simp;omega
        have J:Hid (MF s G (k+1) a out):=Qh ⟨L.out.1,.inl ⟨by omega,ng,fun j h1 A=>by
         rcases Nat.lt_succ_iff_lt_or_eq.1 A with D|rfl
         ·exact L.out.2.1 j h1 D
         ·rw[←X];exact hc,L.out.2.2⟩⟩
        clear X hc;go_wp2
        go_round
        case rel=>exact⟨a,k+1,out,by omega,by omega,rfl,rfl,by go_num,J⟩
        case measure=>simp[RowKit.intOf];omega
      ·have he:k=s.size∨s.data.toList.getD k 0=47:=.inl (by omega)
       obtain⟨p,M⟩:∃p,p=(s.data.toList.drop a).take (k - a):=⟨_,rfl⟩
       obtain⟨T,U⟩:=vy s G k a out p L.out.1 Y Z L.out.2.1 L.out.2.2 M he;have XK:s.extract a k=str p:=by rw[Fq,M]
       have r:(str out).size+1+(str p).size≤9223372036854775807:=by
        rw[aq,aq,M,pR _ _ _ (by rw[←jI];exact Z) Y];have:=L.out.1;omega
       have Yk:(str out).size+1≤9223372036854775807:=by omega
       have Yl:(str out++⟨#[47]⟩).size+(str p).size≤9223372036854775807:=by rw[ByteArray.size_append];exact r
       have Ym:(str out).size+(str p).size≤9223372036854775807:=by omega
       clear M he
       by_cases h1:p=[46,46]
       ·have f:((str p).toList==[46,46])=true:=by rw[il];simpa using h1
        have B:=c.out;rw[T h1]at B;simp only at B;subst B;clear h1 T U;go_wp2;go_ret2;exact⟨rfl,rfl⟩
       ·have f:((str p).toList==[46,46])=false:=by rw[il];simpa using h1
        have J:=Qh (U h1);clear h1 T U
        by_cases A:p=[]
        ·have g:(str p).toList.isEmpty=true:=by rw[aV];simpa using A
         have H:Hid (bF out p=out):=Qh (by unfold bF;rw[if_pos (.inl A)]);clear A;go_wp2
         go_round
         case rel=>exact⟨k+1,k+1,out,by omega,by omega,rfl,by go_num,by go_num,by have:=J.out;rw[H.out]at this;exact this⟩
         case measure=>simp[RowKit.intOf];omega
        ·have g:(str p).toList.isEmpty=false:=by rw[aV];simpa using A
         by_cases D:p=[46]
         ·have l:((str p).toList==[46])=true:=by rw[il];simpa using D
          have H:Hid (bF out p=out):=Qh (by unfold bF;rw[if_pos (.inr D)]);clear A D;go_wp2
          go_round
          case rel=>exact⟨k+1,k+1,out,by omega,by omega,rfl,by go_num,by go_num,by have:=J.out;rw[H.out]at this;exact this⟩
          case measure=>simp[RowKit.intOf];omega
         ·have l:((str p).toList==[46])=false:=by rw[il];simpa using D
          by_cases I:out=[]
          ·have m:(str out).toList.isEmpty=true:=by rw[aV];simpa using I
           have H:Hid (str out++str p=str (bF out p)):=Qh (by unfold bF;rw[if_neg (fun h=>h.elim A D),if_pos I,eM,I];rfl);clear A D I;go_wp2
           go_round
           case rel=>exact⟨k+1,k+1,bF out p,by omega,by omega,by rw[←H.out],by go_num,by go_num,J⟩
           case measure=>simp[RowKit.intOf];omega
          ·have m:(str out).toList.isEmpty=false:=by rw[aV];simpa using I
           have H:Hid (str out++⟨#[47]⟩++str p=str (bF out p)):=Qh (by unfold bF;rw[if_neg (fun h=>h.elim A D),if_neg I,show(⟨#[47]⟩:ByteArray)=str [47]from rfl,eM,eM];simp);clear A D I;go_wp2
           go_round
           case rel=>exact⟨k+1,k+1,bF out p,by omega,by omega,by rw[←H.out],by go_num,by go_num,J⟩
           case measure=>simp[RowKit.intOf];omega
     ·obtain rfl:k=s.size+1:=by omega
      have hl:¬(((s.size+1:Nat):Int)≤(s.size:Int)):=by omega
      have N:G=some out:=by
       obtain⟨h1,⟨_,A,_⟩|⟨_,_,A⟩⟩:=W.out
       ·omega
       ·exact A
      have B:=c.out;rw[N]at B;simp only at B;obtain⟨n,hn⟩:∃n,(str out).size=n:=⟨_,rfl⟩
      have d:n=out.length:=by rw[←hn,aq]
      by_cases O:out=[]
      ·have cf:(str out).toList.isEmpty=true:=by rw[aV];simpa using O
       rw[if_pos (.inl O)]at B;subst B;clear O N d W;go_wp2;go_ret2;exact⟨rfl,rfl⟩
      ·have cf:(str out).toList.isEmpty=false:=by rw[aV];simpa using O
       by_cases A:200<out.length
       ·have bZ:(200:Int)<(n:Int):=by omega
        rw[if_pos (.inr A)]at B;subst B;clear O N d W A;go_wp2;go_ret2;exact⟨rfl,rfl⟩
       ·have bZ:¬(200:Int)<(n:Int):=by omega
        rw[if_neg (fun h=>h.elim O A)]at B;subst B;clear O N d W A;go_wp2;go_ret2;exact⟨rfl,rfl⟩
end Path
namespace Rec
theorem cR {w w':World} {B:Nat} {e:TypeId} {k:Nat} {v:Value} {n:Nat} {xs:List Value} (h:w.ownsRow B e k v n xs) (hb:Below w.heap.size w w'):w'.ownsRow B e k v n xs:=by
 refine⟨h.1,?_⟩;rcases h.2 with D|⟨g,cap,cur,rfl,E,A,G⟩
 ·exact .inl D
 ·exact .inr ⟨g,cap,cur,rfl,E,by rw[hb.block g (Array.getElem?_eq_some_iff.1 A).1];exact A,G⟩
end Rec
namespace bJ
open Go.Lib
theorem wS (w:World) (e:TypeId) (s:ByteArray):Below w.heap.size w (bytesWorld w e s):=
 ⟨rfl,rfl,rfl,by rw[bytesWorld_size];omega,fun k hk=>bytesWorld_at_old w e s k hk⟩
end bJ
end Go.Proofs.YtdhibldkldlfpaaGreatDoor
