/- Merged. -/
import Derived.Test.YtdhibldkldlfpaaGreatDoorRows
import Derived.WalkKit
import Derived.ProofKit
import Derived.Lib.Hide
import Derived.WalkSmall
import Derived.Deep.QuietTactic
import Derived.BigQuiet
import Derived.Lib.Bytes
import Derived.Lib.IndexLaws
import Derived.Test.YtdhibldkldlfpaaGreatDoorEmitUnpacksX1
import Derived.Lib.ConvBytes
namespace Go.Proofs.YtdhibldkldlfpaaGreatDoor
namespace Base
end Base
namespace cb
end cb
namespace Hp
end Hp
namespace iK
end iK
end Go.Proofs.YtdhibldkldlfpaaGreatDoor
section
namespace Go.Proofs.YtdhibldkldlfpaaGreatDoor.Base
open Go.RowKit Go.ChangeShapes Go.WideShapes
theorem own:ownKnob Tryz.prog.godebug=none:=by kernel_rfl
theorem laidOut:laidOutB Tryz.prog=true:=by kernel_rfl
def IsRow (k:IntKind) (w:World) (a:Option Addr) (len cap:Nat) (zs:List Int):Prop:=
 (a=none∧len=0∧cap=0∧zs=[])∨
 ∃x,a=some x∧len≤cap∧cap≤maxLen∧zs.length=cap∧(∀i,i<zs.length→w.cell? (x.add i)=some (.int k (zs.getD i 0)))∧∀n∈zs,(Lit.int k n).wf=true
theorem ay0 {n:Int} (h:(Lit.int .i64 n).wf=true):-9223372036854775808≤n∧n≤9223372036854775807:=by
 have h1:IntKind.i64.min=-9223372036854775808:=rfl;have A:IntKind.i64.max=9223372036854775807:=rfl;simp only[Lit.wf,Bool.and_eq_true,decide_eq_true_eq]at h;omega
theorem V0 {k:IntKind} {w:World} {a:Option Addr} {len cap:Nat} {zs:List Int} (h:IsRow k w a len cap zs) (hl:0<len):
 ∃b off,a=some ⟨b,off,none⟩∧len≤cap∧cap≤maxLen∧zs.length=cap∧b<w.heap.size∧(∀i,i<len→w.cell? ⟨b,off+i,none⟩=some (.int k ((zs.take len).getD i 0)))∧(zs.take len).length=len:=by
 rcases h with⟨_,h,_,_⟩|⟨x,rfl,h1,h2,h3,h4,_⟩
 ·omega
 ·obtain⟨b,off,spot⟩:=x
  have A:spot=none:=by simpa [Addr.add]using World.cell?_spot (h4 0 (by omega))
  subst A;refine⟨b,off,rfl,h1,h2,h3,?_,?_,?_⟩
  ·exact World.block_lt_of_cell? w _ (by simpa [Addr.add]using h4 0 (by omega))
  ·intro i hi
   rw[←WideShapes.add_plain,h4 i (by omega)];simp[List.getD,hi]
  ·rw[List.length_take];omega
end Go.Proofs.YtdhibldkldlfpaaGreatDoor.Base
namespace Go.Proofs.YtdhibldkldlfpaaGreatDoor
theorem Qh {p:Prop} (h:p):Go.RowKit.Hid p:=h
theorem Qa {α:Type _} {a:α} {l:List α}:(a::l)[0]? =some a:=rfl
theorem Qb {α:Type _} {a:α} {l:List α} {i:Nat}:(a::l)[i+1]? =l[i]? :=rfl
theorem Qc {α:Type _} {xs:List α} {i:Nat}:xs.toArray[i]? =xs[i]? :=List.getElem?_toArray
theorem Qd {α:Type _} {l:List α} {i:Nat} (h:i<l.length):l[i]? =some l[i]:=List.getElem?_eq_getElem h
theorem Qe {α:Type _} {i:Nat} {l:List α}:(l.drop i).length=l.length - i:=List.length_drop
theorem Qf {α:Type _} {xs ys:List α}:(xs++ys).length=xs.length+ys.length:=List.length_append
theorem Qg {α:Type _} {i:Nat} {l:List α}:(l.take i).length=min i l.length:=List.length_take
theorem Qi {α β:Type _} {xs:List α} (f:α→β):(xs.map f).length=xs.length:=List.length_map f
theorem Qj {α:Type _} {xs:Array α} {b:α} {i:Nat}:xs[i]? =some b↔∃h:i<xs.size,xs[i]=b:=Array.getElem?_eq_some_iff
theorem Qk (n:Nat):n≤n:=Nat.le_refl n
theorem Ql {α:Type _} {a:α} {i:Nat} {l:List α}:l[i]? =some a↔∃h:i<l.length,l[i]=a:=List.getElem?_eq_some_iff
end Go.Proofs.YtdhibldkldlfpaaGreatDoor
end
namespace Go.Proofs.YtdhibldkldlfpaaGreatDoor
set_option linter.unusedVariables false
open Go.ChangeShapes Go.WideShapes Go.ChangeAt Go.RowKit Base Go.Lib
namespace cb
variable {xs:List Int} {k:Nat}
def iC (w:World) (p:Option Addr) (n:Nat) (bs:List UInt8):Prop:=
 0<n→∃b o,p=some ⟨b,o,none⟩∧∀i,i<n→w.cell? ⟨b,o+i,none⟩=some (.int .u8 (bs.getD i 0).toNat)
section
variable {w w':World} {p:Option Addr} {n:Nat} {bs:List UInt8}
theorem iC.cell (h:iC w p n bs) (hk:k<n):
 ∃b o,p=some ⟨b,o,none⟩∧b<w.heap.size∧∀i,i<n→w.cell? ⟨b,o+i,none⟩=some (.int .u8 (bs.getD i 0).toNat):=by
 obtain⟨b,o,rfl,hc⟩:=h (by omega);exact⟨b,o,rfl,World.block_lt_of_cell? _ _ (hc k hk),hc⟩
theorem iC.below (h:iC w p n bs) (hb:Below w.heap.size w w'):iC w' p n bs:=fun A=>by
 obtain⟨b,o,rfl,B,hc⟩:=h.cell A;exact⟨b,o,rfl,fun i hi=>by rw[hb.cell (p:=⟨b,o+i,none⟩) B];exact hc i hi⟩
theorem iC.none_ (w:World) (p:Option Addr):iC w p 0 []:=fun h=>absurd h (by omega)
theorem iC.alloc (h:iC w p n bs) (o:Obj):iC (w.alloc o) p n bs:=h.below ((Below.refl _ _).alloc (Qk _) o)
theorem iC.drop (h:iC w p n bs) {c:Nat} (hk:k≤n) (hc:n≤c) (hl:bs.length=n):iC w (if c=k then p else p.map (·.add k)) (n - k) (bs.drop k):=fun A=>by
 obtain⟨b,o,rfl,hcell⟩:=h (by omega);rw[if_neg (by omega)];refine⟨b,o+k,by simp[WideShapes.add_plain],fun i hi=>?_⟩;rw[Nat.add_assoc,hcell (k+i) (by omega)];simp[List.getD]
theorem iC.take (h:iC w p n bs) (hk:k≤n):iC w p k (bs.take k):=fun A=>by
 obtain⟨b,o,rfl,hc⟩:=h (by omega);exact⟨b,o,rfl,fun i hi=>by rw[hc i (by omega)];simp[List.getD,hi]⟩
end
theorem F1 (x:UInt8):0≤(x.toNat:Int)∧(x.toNat:Int)≤255:=by have:=x.toNat_lt;omega
theorem Gi (xs:List Int) (i:Nat) (h:i<xs.length) (hx:∀x∈xs,0≤x∧x<256):(((bytesOf xs).getD i 0).toNat:Int)=xs.getD i 0:=by
 have hm:=hx xs[i] (List.getElem_mem h);have e:(bytesOf xs).getD i 0=UInt8.ofNat (xs[i]).toNat:=by simp[bytesOf,List.getD,h]
 rw[e,UInt8.toNat_ofNat'];simp[List.getD,h];omega
theorem wf8 {n:Int} (h:(Lit.int .u8 n).wf=true):0≤n∧n<256:=by
 have h1:IntKind.u8.min=0:=rfl;have A:IntKind.u8.max=255:=rfl;simp only[Lit.wf,Bool.and_eq_true,decide_eq_true_eq]at h;omega
theorem zZ {w:World} {p:Option Addr} {n:Nat} (hn:xs.length=n) (hx:∀x∈xs,0≤x∧x<256)
 (h:0<n→∃b o,p=some ⟨b,o,none⟩∧∀i,i<n→w.cell? ⟨b,o+i,none⟩=some (.int .u8 (xs.getD i 0))):iC w p n (bytesOf xs):=fun A=>by
 obtain⟨b,o,rfl,hc⟩:=h A;exact⟨b,o,rfl,fun i hi=>by rw[hc i hi,Gi xs i (by omega) hx]⟩
theorem Ls {w:World} {a:Option Addr} {len cap:Nat} {zs:List Int} (h:IsRow .u8 w a len cap zs):iC w a len (bytesOf (zs.take len))∧(bytesOf (zs.take len)).length=len∧len≤cap∧cap≤maxLen:=by
 have E:∀x∈zs.take len,0≤x∧x<256:=fun x A=>by
  rcases h with⟨_,_,_,rfl⟩|⟨_,_,_,_,_,_,h⟩
  ·simp at A
  ·exact wf8 (h x (List.mem_of_mem_take A))
 have hl:(zs.take len).length=len∧len≤cap∧cap≤maxLen:=by
  rcases h with⟨_,rfl,rfl,rfl⟩|⟨_,_,h1,h2,h3,_,_⟩
  ·exact⟨rfl,by omega,by omega⟩
  ·exact⟨by rw[Qg];omega,h1,h2⟩
 refine⟨zZ hl.1 E fun B=>?_,by rw[bytesOf_length];exact hl.1,hl.2.1,hl.2.2⟩;obtain⟨b,off,rfl,_,_,_,_,D,_⟩:=V0 h B;exact⟨b,off,rfl,D⟩
theorem IU (bs:List UInt8):strOfNums (bs.map fun x=>(x.toNat:Int))=⟨bs.toArray⟩:=by
 apply ByteArray.ext;apply Array.toList_inj.1;rw[strOfNums_data,List.map_map];show _=bs
 conv=>rhs;rw[←List.map_id bs]
 apply List.map_congr_left;intro x _;simp
theorem iR {P:Program} {w:World} {p:Option Addr} {n:Nat} {bs:List UInt8} (h:iC w p n bs) (hn:bs.length=n) (src e dst:TypeId) (hs:P.underlying src=some (.slice e)) (he:P.underlying e=some (.int .u8)) (hd:P.underlying dst=some .string) (c:Nat):
 (convert src dst (.slice p n c)).run P w=.ok (.string ⟨bs.toArray⟩) w:=by
 by_cases A:0<n
 ·obtain⟨b,o,rfl,hc⟩:=h A
  rw[run_convert_bytes_arg w src e hs he b o n c (bs.map fun x=>(x.toNat:Int)) (by simpa using hn) (fun i hi=>by
   rw[hc i hi];simp[List.getD,Qd (show i<bs.length by omega)]) dst hd,IU]
 ·obtain rfl:n=0:=by omega
  obtain rfl:bs=[]:=List.eq_nil_of_length_eq_zero hn;rcases p with _|a
  ·rw[run_convert_bytes_nil w src e hs he 0 c dst hd];rfl
  ·have hl:(loadCells a 0).run P w=.ok (([]:List Int).map (Value.int .u8)).toArray w:=by
    have:=run_loadCells_list (P:=P) w a [] (fun j v B=>by simp at B)
    simpa using this
   rw[run_convert_bytes_string w src dst e _ 0 c hs he hd,run_bytesToString w a 0 c [] hl];rfl
theorem wU {w:World} {base:Nat} {e:TypeId} {v:Value} {n:Nat} (h:w.ownsRow base e 1 v n (xs.map (Value.int .u8))) (hx:∀x∈xs,0≤x∧x<256):
 ∃p c,v=.slice p n c∧n≤c∧c≤maxLen∧iC w p n (bytesOf xs)∧(bytesOf xs).length=n:=by
 have hl:xs.length=n:=by have:=h.1;simpa using this
 have A:(bytesOf xs).length=n:=by rw[bytesOf_length];exact hl
 rcases h.2 with⟨rfl,rfl⟩|⟨g,cap,cur,rfl,_,_,h1,h2,_⟩
 ·exact⟨none,0,rfl,by omega,by omega,fun h=>absurd h (by omega),A⟩
 ·refine⟨some ⟨g,0,none⟩,cap,rfl,h1,h2,zZ hl hx fun B=>⟨g,0,rfl,fun i hi=>?_⟩,A⟩
  rw[Nat.zero_add,h.cellAt i (by omega),List.getElem?_map,Qd (by omega)];simp[List.getD,hl,hi]
end cb
namespace iK
open cb
def str (l:List UInt8):ByteArray:=⟨l.toArray⟩
theorem aS (l:List UInt8):(str l).data.toList=l:=by simp[str]
theorem zF (s:ByteArray):str s.data.toList=s:=by
 apply ByteArray.ext;simp[str]
theorem ax (l:List UInt8):(str l).size=l.length:=by simp[str,ByteArray.size]
theorem lu (a b:List UInt8):str a++str b=str (a++b):=by
 apply ByteArray.ext;simp[str,ByteArray.data_append]
theorem str_inj {a b:List UInt8} (h:str a=str b):a=b:=by
 have:=congrArg (fun s:ByteArray=>s.data.toList) h
 simpa [aS]using this
theorem jv (s:ByteArray):s.size=s.data.toList.length:=Lib.size_eq s
theorem ak (l:List UInt8):(str l).toList=l:=by rw[Lib.toList_data,aS]
theorem Y7 (a b:List UInt8):(str a==str b)=decide (a=b):=by
 by_cases h:a=b
 ·subst h
  simpa using (MapKept.bytes_beq (str a) (str a)).2 rfl
 ·cases hc:str a==str b with
  |true=>exact absurd (str_inj ((MapKept.bytes_beq _ _).1 hc)) h
  |false=>simpa using h
theorem bh (l:List UInt8):(str l).toList.isEmpty=decide (l=[]):=by
 rw[ak]
 cases l<;>simp
theorem p9 (l c:List UInt8):((str l).toList==c)=decide (l=c):=by
 rw[ak]
 by_cases h:l=c
 ·subst h;simp
 ·simp[h]
theorem yH (l:List UInt8) (k:Nat):(str l).extract 0 k=str (l.take k):=by
 apply ByteArray.ext;simp[str,ByteArray.data_extract]
theorem DG (l:List UInt8) (k n:Nat) (h:n=l.length):(str l).extract k n=str (l.drop k):=by
 subst h;apply ByteArray.ext;simp[str,ByteArray.data_extract,List.take_of_length_le]
theorem vK (l:List UInt8) (c:UInt8):decide (0≤Lib.indexByte l c)=l.contains c:=by
 induction l with
 |nil=>simp[Lib.indexByte]
 |cons b l ih=>
  have E:=Lib.indexByte_ge l c
  by_cases A:b=c
  ·subst A
   simp[Lib.indexByte]
  ·have D:(b==c)=false:=by simpa using A
   by_cases hi:Lib.indexByte l c=-1
   ·have e:Lib.indexByte (b::l) c=-1:=by simp[Lib.indexByte,D,hi]
    rw[hi]at ih;rw[e,List.contains_cons,←ih]
    simpa using fun h=>A h.symm
   ·have B:(Lib.indexByte l c==-1)=false:=by simpa using hi
    have e:Lib.indexByte (b::l) c=Lib.indexByte l c+1:=by simp[Lib.indexByte,D,B]
    rw[List.contains_cons,←ih,e,decide_eq_true (by omega),decide_eq_true (by omega),Bool.or_true]
theorem QM {l:List UInt8} {c:UInt8} (h:l.contains c=false) (i:Nat) (hi:i<l.length):l.getD i 0≠c:=fun e=>by
 have hm:c∈l:=by
  rw[←e,List.getD,Qd hi];exact List.getElem_mem hi
 have:=List.contains_iff_mem.2 hm;rw[h]at this
 cases this
end iK
end Go.Proofs.YtdhibldkldlfpaaGreatDoor
section
namespace Go.Proofs.YtdhibldkldlfpaaGreatDoor.Hp
structure af where
 name:List UInt8
 link:List UInt8
 kind:UInt8
 mode:Int
 uid:Int
 gid:Int
 time:Int
 size:Int
 j7:Bool
def bg:af:=⟨[],[],0,0,0,0,0,0,false⟩
def sc (h:af):Nat→Int
 |1=>h.mode|2=>h.uid|3=>h.gid|4=>h.size|5=>h.time|_=>0
deriving instance DecidableEq for af
end Go.Proofs.YtdhibldkldlfpaaGreatDoor.Hp
namespace Go.Proofs.YtdhibldkldlfpaaGreatDoor.Head
open Go.ChangeShapes Go.WideShapes Go.ChangeAt Go.RowKit Base cb iK Hp Go.Lib
set_option linter.unusedVariables false
set_option maxRecDepth 100000
theorem oG {w:World} {g:Nat} {cs:Array Value} {e:TypeId} (h:w.heap[g]? =some (.cells cs e (0,0))) (i:Nat):w.cell? ⟨g,i,none⟩=cs[i]? :=by
 simp[World.cell?,h]
def aa (h:af):Array Value:=#[.string (str h.name),.string (str h.link),.int .u8 (h.kind.toNat:Int),.int .i64 h.mode,.int .i64 h.uid,.int .i64 h.gid,.int .i64 h.time,.int .i64 h.size,.bool h.j7]
theorem iL:aa bg=#[.string ⟨#[]⟩,.string ⟨#[]⟩,.int .u8 0,.int .i64 0,.int .i64 0,.int .i64 0,.int .i64 0,.int .i64 0,.bool false]:=rfl
def oF (x:af × Int):Value:=.tuple #[.agg (aa x.1),.int .i64 x.2]
theorem vL (w:World) (g:Nat) (a b:ByteArray) (k m u i t z:Int) (n:Bool) (h:w.heap[g]? =some (.cells #[.string a,.string b,.int .u8 k,.int .i64 m,.int .i64 u,.int .i64 i,.int .i64 t,.int .i64 z,.bool n] 66 (0,0))):
 (loadVar 66 ⟨g,0,none⟩).run Tryz.prog w=.ok (.agg #[.string a,.string b,.int .u8 k,.int .i64 m,.int .i64 u,.int .i64 i,.int .i64 t,.int .i64 z,.bool n]) w:=by
 have c0:=oG h 0;have c1:=oG h 1;have c2:=oG h 2;have c3:=oG h 3;have A:=oG h 4;have c5:=oG h 5;have c6:=oG h 6;have c7:=oG h 7;have B:=oG h 8;clear h
 go_simp
end Go.Proofs.YtdhibldkldlfpaaGreatDoor.Head
end
namespace Go.Proofs.YtdhibldkldlfpaaGreatDoor
set_option linter.unusedVariables false
set_option maxHeartbeats 4000000
set_option maxRecDepth 100000
open Go.ChangeShapes Go.WideShapes Go.ChangeAt Go.RowKit Base
namespace Path
open cb iK Go.Lib
theorem vB (s:ByteArray) (k m:Nat) (h:k+m<s.size):at_ (s.data.toList.drop k) m=(s[k+m]).toNat:=by
 unfold at_;have A:k+m<s.data.toList.length:=by rw[←jv];exact h
 simp only[List.getD,List.getElem?_drop];rw[Qd A];rfl
theorem Y9 (l:List UInt8) (hl:l≠[]) (h:¬iM l):aQ l=false:=by rw[kD l hl,if_neg h]
theorem Wh (l:List UInt8) (hl:l≠[]) (h:iM l):aQ l=aQ (l.drop (bQ (at_ l 0))):=by rw[kD l hl,if_pos h]
theorem qJ (s:ByteArray) (w:World) (hm:s.size≤140737488351232):
 Calls Tryz.prog 67 #[.string s] w fun e w'=>e=.returned (.bool (aQ s.data.toList))∧w=w':=by
 obtain⟨BK,hA⟩:∃BK,aQ s.data.toList=BK:=⟨_,rfl⟩
 rw[hA];have t:=Qh hA;clear hA
 go_enter Tryz.func67,Tryz.ntmps67
 go_wp2
 go_loop [3] (fun i=>∃(k:Nat),k≤s.size∧i=.int .i64 k∧Hid (aQ (s.data.toList.drop k)=BK)) (fun i=>s.size - (RowKit.intOf i).toNat)
 case atStart=>exact⟨0,Nat.zero_le _,rfl,Qh t.out⟩
 case round=>
  obtain⟨k,hk,rfl,o⟩:=hrel
  by_cases ay:k<s.size
  ·have M:Hid ((s.data.toList.drop k).length=s.size - k):=Qh (by rw[Qe,←jv])
   have r:Hid (s.data.toList.drop k≠[]):=Qh (fun e=>by have:=M.out;rw[e]at this;simp at this;omega);obtain⟨C,l⟩:∃C:Nat,(s[k]).toNat=C:=⟨_,rfl⟩
   have hC2:((s[k]).toNat:Int)=(C:Int):=by rw[l]
   have hC3:(C:Int)≤255:=by have:=(s[k]).toNat_lt;omega
   have B:Hid (at_ (s.data.toList.drop k) 0=C):=Qh (by rw[vB s k 0 (by omega)];exact l);have H:Hid (¬iM (s.data.toList.drop k)→BK=false):=Qh (fun h=>by rw[←o.out];exact Y9 _ r.out h)
   have Y:Hid (∀N,bQ C=N→iM (s.data.toList.drop k)→aQ (s.data.toList.drop (k+N))=BK):=Qh (fun N hN h=>by
    rw[←o.out,Wh _ r.out h,B.out,hN,List.drop_drop])
   clear l
   by_cases E:(C:Int)=0
   ·obtain rfl:BK=false:=H.out (fun h=>h.1 (by rw[B.out,show C=0 by omega];rfl))
    have u:((C:Int)==0)=true:=by simpa using E
    clear E;go_wp2;go_ret;exact⟨rfl,rfl⟩
   ·have u:((C:Int)==0)=false:=by simpa using E
    by_cases h1:(C:Int)<128
    ·have A:Hid (bQ C=1):=Qh (by unfold bQ;rw[if_neg (by omega),if_pos (by omega)])
     by_cases hN:k+1≤s.size
     ·have I:¬((s.size:Int) - (k:Int)<1):=by omega
      go_wp2
      go_loop [6] (fun i=>∃(j:Nat),1≤j∧j≤1∧i=.int .i64 j∧Hid (∀m,0<m→m<j→iP (at_ (s.data.toList.drop k) m))) (fun i=>1 - (RowKit.intOf i).toNat)
      case atStart=>exact⟨1,by omega,by omega,rfl,Qh (fun m h1 V=>by omega)⟩
      case round=>
       obtain⟨j,b,Z,rfl,L⟩:=hrel
       by_cases O:j<1
       ·omega
       ·obtain rfl:j=1:=by omega
        clear O b Z;have J:Hid (iM (s.data.toList.drop k)):=Qh ⟨by rw[B.out,A.out];omega,by rw[B.out,A.out,M.out];omega,fun m hm E=>L.out m E (by rw[B.out,A.out]at hm;omega),by rw[B.out,A.out];unfold jZ;omega⟩;go_wp2
        go_round
        case rel=>exact⟨k+1,by omega,by go_num,Qh (Y.out 1 A.out J.out)⟩
        case measure=>simp[RowKit.intOf];omega
     ·have I:(s.size:Int) - (k:Int)<1:=by omega
      obtain rfl:BK=false:=H.out (fun h=>by have h1:=h.2.1;rw[B.out,A.out,M.out]at h1;omega);go_wp2;go_ret;exact⟨rfl,rfl⟩
    ·by_cases V:(194:Int)≤(C:Int)
     ·by_cases c:(C:Int)<224
      ·have A:Hid (bQ C=2):=Qh (by unfold bQ;rw[if_neg (by omega),if_neg (by omega),if_pos (by omega)])
       by_cases hN:k+2≤s.size
       ·have I:¬((s.size:Int) - (k:Int)<2):=by omega
        go_wp2
        go_loop [6] (fun i=>∃(j:Nat),1≤j∧j≤2∧i=.int .i64 j∧Hid (∀m,0<m→m<j→iP (at_ (s.data.toList.drop k) m))) (fun i=>2 - (RowKit.intOf i).toNat)
        case atStart=>exact⟨1,by omega,by omega,rfl,Qh (fun m h1 V=>by omega)⟩
        case round=>
         obtain⟨j,b,Z,rfl,L⟩:=hrel
         by_cases O:j<2
         ·have d:k+j<s.size:=by omega
          obtain⟨D,G⟩:∃D:Nat,(s[k+j]).toNat=D:=⟨_,rfl⟩
          have W:((s[k+j]).toNat:Int)=(D:Int):=by rw[G]
          have T:Hid (at_ (s.data.toList.drop k) j=D):=Qh (by rw[vB s k j d];exact G);have X:(D:Int)≤255:=by have:=(s[k+j]).toNat_lt;omega
          clear G
          by_cases g1:(D:Int)<128
          ·obtain rfl:BK=false:=H.out (fun h=>by have h1:=h.2.2.1 j (by rw[B.out,A.out];exact O) (by omega);rw[T.out]at h1;unfold iP at h1;omega)
           go_wp2;go_ret;exact⟨rfl,rfl⟩
          ·by_cases g2:(191:Int)<(D:Int)
           ·obtain rfl:BK=false:=H.out (fun h=>by have h1:=h.2.2.1 j (by rw[B.out,A.out];exact O) (by omega);rw[T.out]at h1;unfold iP at h1;omega)
            go_wp2;go_ret;exact⟨rfl,rfl⟩
           ·have g:Hid (∀m,0<m→m<j+1→iP (at_ (s.data.toList.drop k) m)):=Qh (fun m h1 V=>by
             rcases Nat.lt_succ_iff_lt_or_eq.1 V with c|rfl
             ·exact L.out m h1 c
             ·rw[T.out];unfold iP;omega)
            go_wp2
            go_round
            case rel=>exact⟨j+1,by omega,by omega,by go_num,g⟩
            case measure=>simp[RowKit.intOf];omega
         ·obtain rfl:j=2:=by omega
          clear O b Z;have J:Hid (iM (s.data.toList.drop k)):=Qh ⟨by rw[B.out,A.out];omega,by rw[B.out,A.out,M.out];omega,fun m hm E=>L.out m E (by rw[B.out,A.out]at hm;omega),by rw[B.out,A.out];unfold jZ;omega⟩;go_wp2
          go_round
          case rel=>exact⟨k+2,by omega,by go_num,Qh (Y.out 2 A.out J.out)⟩
          case measure=>simp[RowKit.intOf];omega
       ·have I:(s.size:Int) - (k:Int)<2:=by omega
        obtain rfl:BK=false:=H.out (fun h=>by have h1:=h.2.1;rw[B.out,A.out,M.out]at h1;omega);go_wp2;go_ret;exact⟨rfl,rfl⟩
      ·have y:(224:Int)≤(C:Int):=by omega
       by_cases h5:(C:Int)<240
       ·have A:Hid (bQ C=3):=Qh (by unfold bQ;rw[if_neg (by omega),if_neg (by omega),if_neg (by omega),if_pos (by omega)])
        by_cases hN:k+3≤s.size
        ·have I:¬((s.size:Int) - (k:Int)<3):=by omega
         go_wp2
         go_loop [6] (fun i=>∃(j:Nat),1≤j∧j≤3∧i=.int .i64 j∧Hid (∀m,0<m→m<j→iP (at_ (s.data.toList.drop k) m))) (fun i=>3 - (RowKit.intOf i).toNat)
         case atStart=>exact⟨1,by omega,by omega,rfl,Qh (fun m h1 V=>by omega)⟩
         case round=>
          obtain⟨j,b,Z,rfl,L⟩:=hrel
          by_cases O:j<3
          ·have d:k+j<s.size:=by omega
           obtain⟨D,G⟩:∃D:Nat,(s[k+j]).toNat=D:=⟨_,rfl⟩
           have W:((s[k+j]).toNat:Int)=(D:Int):=by rw[G]
           have T:Hid (at_ (s.data.toList.drop k) j=D):=Qh (by rw[vB s k j d];exact G);have X:(D:Int)≤255:=by have:=(s[k+j]).toNat_lt;omega
           clear G
           by_cases g1:(D:Int)<128
           ·obtain rfl:BK=false:=H.out (fun h=>by have h1:=h.2.2.1 j (by rw[B.out,A.out];exact O) (by omega);rw[T.out]at h1;unfold iP at h1;omega)
            go_wp2;go_ret;exact⟨rfl,rfl⟩
           ·by_cases g2:(191:Int)<(D:Int)
            ·obtain rfl:BK=false:=H.out (fun h=>by have h1:=h.2.2.1 j (by rw[B.out,A.out];exact O) (by omega);rw[T.out]at h1;unfold iP at h1;omega)
             go_wp2;go_ret;exact⟨rfl,rfl⟩
            ·have g:Hid (∀m,0<m→m<j+1→iP (at_ (s.data.toList.drop k) m)):=Qh (fun m h1 V=>by
              rcases Nat.lt_succ_iff_lt_or_eq.1 V with c|rfl
              ·exact L.out m h1 c
              ·rw[T.out];unfold iP;omega)
             go_wp2
             go_round
             case rel=>exact⟨j+1,by omega,by omega,by go_num,g⟩
             case measure=>simp[RowKit.intOf];omega
          ·obtain rfl:j=3:=by omega
           clear O b Z;have p:k+1<s.size:=by omega
           obtain⟨R,G⟩:∃D:Nat,(s[k+1]).toNat=D:=⟨_,rfl⟩
           have W:((s[k+1]).toNat:Int)=(R:Int):=by rw[G]
           have U:Hid (at_ (s.data.toList.drop k) 1=R):=Qh (by rw[vB s k 1 p];exact G);have X:(R:Int)≤255:=by have:=(s[k+1]).toNat_lt;omega
           clear G
           by_cases c1:(C:Int)=224
           ·have q:((C:Int)==224)=true:=by simpa using c1
            have f:((C:Int)==237)=false:=by simp;omega
            by_cases g1:(R:Int)<160
            ·obtain rfl:BK=false:=H.out (fun h=>by have h1:=h.2.2.2;rw[B.out,A.out,U.out]at h1;unfold jZ at h1;omega)
             go_wp2;go_ret;exact⟨rfl,rfl⟩
            ·have J:Hid (iM (s.data.toList.drop k)):=Qh ⟨by rw[B.out,A.out];omega,by rw[B.out,A.out,M.out];omega,fun m hm E=>L.out m E (by rw[B.out,A.out]at hm;omega),by rw[B.out,A.out,U.out];unfold jZ;omega⟩
             go_wp2
             go_round
             case rel=>exact⟨k+3,by omega,by go_num,Qh (Y.out 3 A.out J.out)⟩
             case measure=>simp[RowKit.intOf];omega
           ·have q:((C:Int)==224)=false:=by simpa using c1
            by_cases c2:(C:Int)=237
            ·have f:((C:Int)==237)=true:=by simpa using c2
             by_cases g1:(159:Int)<(R:Int)
             ·obtain rfl:BK=false:=H.out (fun h=>by have h1:=h.2.2.2;rw[B.out,A.out,U.out]at h1;unfold jZ at h1;omega)
              go_wp2;go_ret;exact⟨rfl,rfl⟩
             ·have J:Hid (iM (s.data.toList.drop k)):=Qh ⟨by rw[B.out,A.out];omega,by rw[B.out,A.out,M.out];omega,fun m hm E=>L.out m E (by rw[B.out,A.out]at hm;omega),by rw[B.out,A.out,U.out];unfold jZ;omega⟩
              go_wp2
              go_round
              case rel=>exact⟨k+3,by omega,by go_num,Qh (Y.out 3 A.out J.out)⟩
              case measure=>simp[RowKit.intOf];omega
            ·have f:((C:Int)==237)=false:=by simpa using c2
             have J:Hid (iM (s.data.toList.drop k)):=Qh ⟨by rw[B.out,A.out];omega,by rw[B.out,A.out,M.out];omega,fun m hm E=>L.out m E (by rw[B.out,A.out]at hm;omega),by rw[B.out,A.out,U.out];unfold jZ;omega⟩;go_wp2
             go_round
             case rel=>exact⟨k+3,by omega,by go_num,Qh (Y.out 3 A.out J.out)⟩
             case measure=>simp[RowKit.intOf];omega
        ·have I:(s.size:Int) - (k:Int)<3:=by omega
         obtain rfl:BK=false:=H.out (fun h=>by have h1:=h.2.1;rw[B.out,A.out,M.out]at h1;omega);go_wp2;go_ret;exact⟨rfl,rfl⟩
       ·have z:(240:Int)≤(C:Int):=by omega
        by_cases h7:(C:Int)<245
        ·have A:Hid (bQ C=4):=Qh (by unfold bQ;rw[if_neg (by omega),if_neg (by omega),if_neg (by omega),if_neg (by omega),if_pos (by omega)])
         by_cases hN:k+4≤s.size
         ·have I:¬((s.size:Int) - (k:Int)<4):=by omega
          go_wp2
          go_loop [6] (fun i=>∃(j:Nat),1≤j∧j≤4∧i=.int .i64 j∧Hid (∀m,0<m→m<j→iP (at_ (s.data.toList.drop k) m))) (fun i=>4 - (RowKit.intOf i).toNat)
          case atStart=>exact⟨1,by omega,by omega,rfl,Qh (fun m h1 V=>by omega)⟩
          case round=>
           obtain⟨j,b,Z,rfl,L⟩:=hrel
           by_cases O:j<4
           ·have d:k+j<s.size:=by omega
            obtain⟨D,G⟩:∃D:Nat,(s[k+j]).toNat=D:=⟨_,rfl⟩
            have W:((s[k+j]).toNat:Int)=(D:Int):=by rw[G]
            have T:Hid (at_ (s.data.toList.drop k) j=D):=Qh (by rw[vB s k j d];exact G);have X:(D:Int)≤255:=by have:=(s[k+j]).toNat_lt;omega
            clear G
            by_cases g1:(D:Int)<128
            ·obtain rfl:BK=false:=H.out (fun h=>by have h1:=h.2.2.1 j (by rw[B.out,A.out];exact O) (by omega);rw[T.out]at h1;unfold iP at h1;omega)
             go_wp2;go_ret;exact⟨rfl,rfl⟩
            ·by_cases g2:(191:Int)<(D:Int)
             ·obtain rfl:BK=false:=H.out (fun h=>by have h1:=h.2.2.1 j (by rw[B.out,A.out];exact O) (by omega);rw[T.out]at h1;unfold iP at h1;omega)
              go_wp2;go_ret;exact⟨rfl,rfl⟩
             ·have g:Hid (∀m,0<m→m<j+1→iP (at_ (s.data.toList.drop k) m)):=Qh (fun m h1 V=>by
               rcases Nat.lt_succ_iff_lt_or_eq.1 V with c|rfl
               ·exact L.out m h1 c
               ·rw[T.out];unfold iP;omega)
              go_wp2
              go_round
              case rel=>exact⟨j+1,by omega,by omega,by go_num,g⟩
              case measure=>simp[RowKit.intOf];omega
           ·obtain rfl:j=4:=by omega
            clear O b Z;have p:k+1<s.size:=by omega
            obtain⟨R,G⟩:∃D:Nat,(s[k+1]).toNat=D:=⟨_,rfl⟩
            have W:((s[k+1]).toNat:Int)=(R:Int):=by rw[G]
            have U:Hid (at_ (s.data.toList.drop k) 1=R):=Qh (by rw[vB s k 1 p];exact G);have X:(R:Int)≤255:=by have:=(s[k+1]).toNat_lt;omega
            clear G
            by_cases c1:(C:Int)=240
            ·have q:((C:Int)==240)=true:=by simpa using c1
             have f:((C:Int)==244)=false:=by simp;omega
             by_cases g1:(R:Int)<144
             ·obtain rfl:BK=false:=H.out (fun h=>by have h1:=h.2.2.2;rw[B.out,A.out,U.out]at h1;unfold jZ at h1;omega)
              go_wp2;go_ret;exact⟨rfl,rfl⟩
             ·have J:Hid (iM (s.data.toList.drop k)):=Qh ⟨by rw[B.out,A.out];omega,by rw[B.out,A.out,M.out];omega,fun m hm E=>L.out m E (by rw[B.out,A.out]at hm;omega),by rw[B.out,A.out,U.out];unfold jZ;omega⟩
              go_wp2
              go_round
              case rel=>exact⟨k+4,by omega,by go_num,Qh (Y.out 4 A.out J.out)⟩
              case measure=>simp[RowKit.intOf];omega
            ·have q:((C:Int)==240)=false:=by simpa using c1
             by_cases c2:(C:Int)=244
             ·have f:((C:Int)==244)=true:=by simpa using c2
              by_cases g1:(143:Int)<(R:Int)
              ·obtain rfl:BK=false:=H.out (fun h=>by have h1:=h.2.2.2;rw[B.out,A.out,U.out]at h1;unfold jZ at h1;omega)
               go_wp2;go_ret;exact⟨rfl,rfl⟩
              ·have J:Hid (iM (s.data.toList.drop k)):=Qh ⟨by rw[B.out,A.out];omega,by rw[B.out,A.out,M.out];omega,fun m hm E=>L.out m E (by rw[B.out,A.out]at hm;omega),by rw[B.out,A.out,U.out];unfold jZ;omega⟩
               go_wp2
               go_round
               case rel=>exact⟨k+4,by omega,by go_num,Qh (Y.out 4 A.out J.out)⟩
               case measure=>simp[RowKit.intOf];omega
             ·have f:((C:Int)==244)=false:=by simpa using c2
              have J:Hid (iM (s.data.toList.drop k)):=Qh ⟨by rw[B.out,A.out];omega,by rw[B.out,A.out,M.out];omega,fun m hm E=>L.out m E (by rw[B.out,A.out]at hm;omega),by rw[B.out,A.out,U.out];unfold jZ;omega⟩;go_wp2
              go_round
              case rel=>exact⟨k+4,by omega,by go_num,Qh (Y.out 4 A.out J.out)⟩
              case measure=>simp[RowKit.intOf];omega
         ·have I:(s.size:Int) - (k:Int)<4:=by omega
          obtain rfl:BK=false:=H.out (fun h=>by have h1:=h.2.1;rw[B.out,A.out,M.out]at h1;omega);go_wp2;go_ret;exact⟨rfl,rfl⟩
        ·have A:Hid (bQ C=0):=Qh (by unfold bQ;rw[if_neg (by omega),if_neg (by omega),if_neg (by omega),if_neg (by omega),if_neg (by omega)])
         obtain rfl:BK=false:=H.out (fun h=>h.1 (by rw[B.out,A.out]));go_wp2;go_ret;exact⟨rfl,rfl⟩
     ·have y:¬(224:Int)≤(C:Int):=by omega
      have z:¬(240:Int)≤(C:Int):=by omega
      have A:Hid (bQ C=0):=Qh (by unfold bQ;rw[if_neg (by omega),if_neg (by omega),if_neg (by omega),if_neg (by omega),if_neg (by omega)]);obtain rfl:BK=false:=H.out (fun h=>h.1 (by rw[B.out,A.out]));go_wp2;go_ret;exact⟨rfl,rfl⟩
  ·obtain rfl:k=s.size:=by omega
   have hl:¬((s.size:Int)<(s.size:Int)):=by omega
   obtain rfl:true=BK:=by rw[←o.out,List.drop_eq_nil_of_le (by rw[←jv];exact Qk _)];rfl
   go_wp2;go_ret;exact⟨rfl,rfl⟩
end Path
namespace Rec
open cb iK Path Go.Lib
def lq (r:Option Nat):Value:=match r with
 |some n=>.tuple #[.int .i64 (n:Int),.bool true]
 |none=>.tuple #[.int .i64 0,.bool false]
theorem VH {k:Nat} (hk:k≤17):10 ^ k≤100000000000000000:=Nat.pow_le_pow_right (by omega) hk
theorem sR (s:ByteArray) (w:World):Calls Tryz.prog 66 #[.string s] w fun e w'=>e=.returned (lq (bA s.data.toList))∧w=w':=by
 have A:s.data.toList.length=s.size:=(jv s).symm
 by_cases h1:s.size<1
 ·have e:bA s.data.toList=none:=by unfold bA;rw[if_pos (.inl (by omega))]
  rw[e];have B:(s.size:Int)<1:=by omega
  clear A h1 e
  go_enter Tryz.func66,Tryz.ntmps66
  go_wp2;go_ret2;exact⟨rfl,rfl⟩
 ·by_cases J:18<s.size
  ·have e:bA s.data.toList=none:=by unfold bA;rw[if_pos (.inr (by omega))]
   rw[e];have B:¬(s.size:Int)<1:=by omega
   have d:(18:Int)<(s.size:Int):=by omega
   clear A h1 J e
   go_enter Tryz.func66,Tryz.ntmps66
   go_wp2;go_ret2;exact⟨rfl,rfl⟩
  ·have D:=Qh A
   have B:¬(s.size:Int)<1:=by omega
   have d:¬(18:Int)<(s.size:Int):=by omega
   have I:Hid (bA s.data.toList=if s.data.toList.all aN then some (ki s.data.toList)else none):=Qh (by unfold bA;rw[if_neg (by omega)]);clear A
   go_enter Tryz.func66,Tryz.ntmps66
   go_wp2
   go_loop [4,5] (fun a b=>∃(k v:Nat),k≤s.size∧a=.int .i64 (v:Int)∧b=.int .i64 (k:Int)∧Hid (v=ki (s.data.toList.take k))∧Hid (∀x∈s.data.toList.take k,aN x=true)) (fun _ b=>s.size - (RowKit.intOf b).toNat)
   case atStart=>exact⟨0,0,Nat.zero_le _,rfl,rfl,Qh rfl,Qh (by simp)⟩
   case round=>
    obtain⟨k,v,hk,rfl,rfl,M,hd⟩:=hrel
    by_cases O:k<s.size
    ·have N:Hid (s.data.toList.take (k+1)=s.data.toList.take k++[s[k]]):=Qh (by
      rw[List.take_add_one,Qd (show k<s.data.toList.length by rw[D.out];exact O)]
      rfl)
     have T:Hid (s[k]∈s.data.toList):=Qh (by
      have:s.data.toList[k]'(by rw[D.out];exact O)∈s.data.toList:=List.getElem_mem _
      exact this)
     obtain⟨C,L⟩:∃C:Nat,(s[k]).toNat=C:=⟨_,rfl⟩
     have V:((s[k]).toNat:Int)=(C:Int):=by rw[L]
     have W:(C:Int)≤255:=by have:=(s[k]).toNat_lt;omega
     have HC:=Qh L
     have Z:(v:Int)<100000000000000000:=by
      have G:=Ie _ hd.out;rw[←M.out,Qg,D.out,Nat.min_eq_left (by omega)]at G;have:=VH (show k≤17 by omega);omega
     clear L
     by_cases g1:(C:Int)<48
     ·have E:Hid (bA s.data.toList=none):=Qh (by
       rw[I.out,if_neg];intro h;have:=List.all_eq_true.1 h _ T.out;simp only[aN,decide_eq_true_eq,HC.out]at this
       omega)
      go_wp2;go_ret2;rw[E.out];exact⟨rfl,rfl⟩
     ·by_cases g2:(57:Int)<(C:Int)
      ·have E:Hid (bA s.data.toList=none):=Qh (by
        rw[I.out,if_neg];intro h;have:=List.all_eq_true.1 h _ T.out;simp only[aN,decide_eq_true_eq,HC.out]at this
        omega)
       go_wp2;go_ret2;rw[E.out];exact⟨rfl,rfl⟩
      ·have U:Hid (v*10+(C - 48)=ki (s.data.toList.take (k+1))):=Qh (by rw[N.out,F4,←M.out,HC.out])
       have H:Hid (∀x∈s.data.toList.take (k+1),aN x=true):=Qh (by
        rw[N.out];intro x c;rcases List.mem_append.1 c with h|h
        ·exact hd.out x h
        ·rw[List.mem_singleton.1 h]
         simp only[aN,decide_eq_true_eq,HC.out]
         omega)
       go_wp2
       go_round
       case rel=>exact⟨k+1,v*10+(C - 48),by omega,by congr 1;omega,by go_num,U,H⟩
       case measure=>simp[RowKit.intOf];omega
    ·have f:k=s.size:=by omega
     have X:Hid (bA s.data.toList=some v):=Qh (by
      have Y:s.data.toList.take k=s.data.toList:=List.take_of_length_le (by rw[D.out];omega);have G:=hd.out;have R:=M.out;rw[Y]at G R
      rw[I.out,if_pos (List.all_eq_true.2 G),←R])
     go_wp2;go_ret2;rw[X.out];exact⟨rfl,rfl⟩
theorem oK (s:ByteArray) (k:Nat) (h:k<s.size):s.data.toList.getD k 0=s[k]:=by
 rw[List.getD,Qd (show k<s.data.toList.length by rw[←jv];exact h)];rfl
theorem wY (w:World) (t:TypeId) (a b:Value):(w.alloc (.cells #[a,b] t)).cell? ⟨w.heap.size,0,none⟩=some a∧(w.alloc (.cells #[a,b] t)).cell? ⟨w.heap.size,1,none⟩=some b:=by
 have h:=heap_alloc_new w (.cells #[a,b] t);unfold World.cell?;rw[h];exact⟨rfl,rfl⟩
end Rec
namespace Path
open cb iK Go.Lib
theorem VF (l:List UInt8) (a i:Nat) (ha:a≤i) (hi:i<l.length) (hn:∀j,a≤j→j<i→l.getD j 0≠47) (h:l.getD i 0=47):
 aH (l.drop a)=(l.drop a).take (i - a)::aH (l.drop (i+1)):=by
 have e:l.drop a=(l.drop a).take (i - a)++47::l.drop (i+1):=by
  have h1:(l.drop a).drop (i - a)=47::l.drop (i+1):=by
   rw[List.drop_drop,show a+(i - a)=i by omega,List.drop_eq_getElem_cons hi]
   congr 1
   rw[←h,List.getD,Qd hi];rfl
  rw[←h1,List.take_append_drop]
 have B:(47:UInt8)∉(l.drop a).take (i - a):=fun hm=>by
  obtain⟨j,A,he⟩:=List.mem_iff_getElem.1 hm;rw[Qg,Qe]at A;rw[List.getElem_take,List.getElem_drop]at he;refine hn (a+j) (by omega) (by omega) ?_;rw[List.getD,Qd (by omega),he];rfl
 rw[e,Fv,rR _ B,←e];rfl
theorem RH (l:List UInt8) (a:Nat) (ha:a≤l.length) (hn:∀j,a≤j→j<l.length→l.getD j 0≠47):aH (l.drop a)=[(l.drop a).take (l.length - a)]:=by
 have e:(l.drop a).take (l.length - a)=l.drop a:=List.take_of_length_le (by rw[Qe];exact Qk _);rw[e];refine rR _ fun hm=>?_
 obtain⟨j,A,he⟩:=List.mem_iff_getElem.1 hm;rw[Qe]at A;rw[List.getElem_drop]at he;refine hn (a+j) (by omega) (by omega) ?_;rw[List.getD,Qd (by omega),he];rfl
theorem zv (l:List UInt8) (a i:Nat) (hi:i≤l.length) (ha:a≤i):((l.drop a).take (i - a)).length=i - a:=by
 rw[Qg,Qe];omega
theorem Ph (s:ByteArray) (a i:Nat):s.extract a i=str ((s.data.toList.drop a).take (i - a)):=by
 apply ByteArray.ext;rw[←Array.toList_inj];simp[str,ByteArray.data_extract,List.extract_eq_take_drop]
def Xc (s:ByteArray) (G:Option (List UInt8)) (i a:Nat) (out:List UInt8):Prop:=
 out.length≤a∧((a≤i∧i≤s.size∧(∀j,a≤j→j<i→s.data.toList.getD j 0≠47)∧Gv out (aH (s.data.toList.drop a))=G)∨(i=s.size+1∧a≤i∧G=some out))
theorem EL (s:ByteArray) (G:Option (List UInt8)) (i a:Nat) (out p:List UInt8) (h:out.length≤a) (ha:a≤i) (hi:i≤s.size) (hn:∀j,a≤j→j<i→s.data.toList.getD j 0≠47)
 (hg:Gv out (aH (s.data.toList.drop a))=G) (hp:p=(s.data.toList.drop a).take (i - a)) (he:i=s.size∨s.data.toList.getD i 0=47):
 (p=[46,46]→G=none)∧(p≠[46,46]→Xc s G (i+1) (i+1) (cr out p)):=by
 have A:s.data.toList.length=s.size:=(jv s).symm;have I:p.length=i - a:=by rw[hp];exact zv _ _ _ (by rw[A];exact hi) ha
 have D:(cr out p).length≤i+1:=by
  unfold cr;split
  ·omega
  ·split
   ·omega
   ·rw[Qf,List.length_cons];omega
 by_cases H:i<s.size
 ·have B:s.data.toList.getD i 0=47:=by rcases he with h|h;omega;exact h
  rw[VF _ a i ha (by rw[A];exact H) hn B,←hp]at hg;unfold Gv at hg;refine⟨fun e=>by rw[if_pos e]at hg;exact hg.symm,fun e=>?_⟩;rw[if_neg e]at hg;exact⟨D,.inl ⟨Qk _,H,fun j h1 J=>by omega,hg⟩⟩
 ·obtain rfl:i=s.size:=by omega
  have E:=RH s.data.toList a (by rw[A];exact ha) (by rw[A];exact hn);rw[A,←hp]at E;rw[E]at hg;unfold Gv at hg;refine⟨fun e=>by rw[if_pos e]at hg;exact hg.symm,fun e=>?_⟩;rw[if_neg e]at hg;exact⟨D,.inr ⟨rfl,Qk _,hg.symm⟩⟩
theorem xn (s:ByteArray) (w:World) (hm:s.size≤140737488351232):
 Calls Tryz.prog 37 #[.string s] w fun e w'=>e=.returned (.tuple #[.string (str (aF 9 6 s.data.toList).1),.int .i64 (aF 9 6 s.data.toList).2])∧w=w':=by
 have X:=qJ s w (by omega);have E:s.data.toList.length=s.size:=(jv s).symm;obtain⟨R,B⟩:∃R,aF 9 6 s.data.toList=R:=⟨_,rfl⟩
 rw[B];unfold aF at B
 cases ht:aQ s.data.toList with
 |false=>
  rw[ht]at X B;rw[if_pos rfl]at B;subst B;clear E
  go_enter Tryz.func37,Tryz.ntmps37
  go_wp2_with (go_at_call 67;refine X.mono ?_;rintro e w' ⟨rfl,rfl⟩)
  go_ret2;exact⟨rfl,rfl⟩
 |true=>
  rw[ht]at X B;rw[if_neg (by simp)]at B
  by_cases hz:s.size=0
  ·have hl:s.data.toList=[]:=List.length_eq_zero_iff.1 (by rw[E];exact hz)
   rw[hl,show([]:List UInt8).headD 47=47 from rfl,if_pos rfl]at B;subst B;have hb:s.toList.isEmpty=true:=by rw[Lib.toList_data,hl];rfl
   clear E hz hl
   go_enter Tryz.func37,Tryz.ntmps37
   go_wp2_with (go_at_call 67;refine X.mono ?_;rintro e w' ⟨rfl,rfl⟩)
   go_ret2;exact⟨rfl,rfl⟩
  ·have h0:0<s.size:=by omega
   have hb:s.toList.isEmpty=false:=by
    rw[Lib.toList_data]
    cases hl:s.data.toList with
    |nil=>rw[hl]at E;simp at E;omega
    |cons _ _=>rfl
   have Z:s.data.toList.headD 47=s[0]:=by
    have e:s.data.toList[0]'(by rw[E];exact h0)=s[0]:=rfl
    cases hl:s.data.toList with
    |nil=>rw[hl]at E;simp at E;omega
    |cons b t=>simp only[hl]at e;exact e
   rw[Z]at B;clear Z hz
   by_cases hc:s[0]=47
   ·rw[if_pos hc]at B
    subst B;have ZG:(((s[0]).toNat:Int)==47)=true:=by rw[hc];rfl
    clear hc E
    go_enter Tryz.func37,Tryz.ntmps37
    go_wp2_with (go_at_call 67;refine X.mono ?_;rintro e w' ⟨rfl,rfl⟩)
    go_ret2;exact⟨rfl,rfl⟩
   ·rw[if_neg hc]at B
    have ZG:(((s[0]).toNat:Int)==47)=false:=by
     have:¬(s[0]).toNat=47:=fun e=>hc (UInt8.toNat_inj.1 e)
     simp;omega
    obtain⟨G,O⟩:∃G,Gv [] (aH s.data.toList)=G:=⟨_,rfl⟩
    rw[O]at B;have g:=Qh B;have H0:Hid (Xc s G 0 0 []):=Qh ⟨Qk _,.inl ⟨Qk _,Nat.zero_le _,fun j h1 A=>by omega,by rw[List.drop_zero];exact O⟩⟩;clear B O hc E
    go_enter Tryz.func37,Tryz.ntmps37
    go_wp2_with (go_at_call 67;refine X.mono ?_;rintro e w' ⟨rfl,rfl⟩)
    go_loop [4,5,6] (fun o at_ i=>∃(a k:Nat) (out:List UInt8),k≤s.size+1∧a≤k∧o=.string (str out)∧at_=.int .i64 a∧i=.int .i64 k∧Hid (Xc s G k a out)) (fun _ _ i=>s.size+1 - (RowKit.intOf i).toNat)
    case atStart=>exact⟨0,0,[],by omega,by omega,rfl,rfl,rfl,H0⟩
    case round=>
     obtain⟨a,k,out,hk,M,rfl,rfl,rfl,Y⟩:=hrel
     by_cases d:k≤s.size
     ·have Ba:out.length≤a∧(∀j,a≤j→j<k→s.data.toList.getD j 0≠47)∧Gv out (aH (s.data.toList.drop a))=G:=by
       obtain⟨h1,⟨_,_,A,D⟩|⟨A,_⟩⟩:=Y.out
       ·exact⟨h1,A,D⟩
       ·omega
      have L:=Qh Ba;clear Y Ba
      by_cases uh:k<s.size
      ·have c:s[k]=s.data.toList.getD k 0:=(by rw[List.getD,Qd (show k<s.data.toList.length by rw[←jv];exact uh)];rfl)
       by_cases hc:s[k]=47
       ·have l:(((s[k]).toNat:Int)==47)=true:=by rw[hc];rfl
        have he:k=s.size∨s.data.toList.getD k 0=47:=.inr (by rw[←c];exact hc);clear c hc;obtain⟨p,N⟩:∃p,p=(s.data.toList.drop a).take (k - a):=⟨_,rfl⟩
        obtain⟨V,W⟩:=EL s G k a out p L.out.1 M d L.out.2.1 L.out.2.2 N he;have m:s.extract a k=str p:=by rw[Ph,N]
        have f:(str out).size+1+(str p).size≤9223372036854775807:=by
         rw[ax,ax,N,zv _ _ _ (by rw[←jv];exact d) M];have:=L.out.1;omega
        have q:(str out).size+1≤9223372036854775807:=by omega
        have r:(str out++⟨#[47]⟩).size+(str p).size≤9223372036854775807:=by rw[ByteArray.size_append];exact f
        have u:(str out).size+(str p).size≤9223372036854775807:=by omega
        clear N he
        by_cases h1:p=[46,46]
        ·have b1:((str p).toList==[46,46])=true:=by rw[p9];simpa using h1
         have B:=g.out;rw[V h1]at B;simp only at B;subst B;clear h1 V W;go_wp2;go_ret2;exact⟨rfl,rfl⟩
        ·have b1:((str p).toList==[46,46])=false:=by rw[p9];simpa using h1
         have J:=Qh (W h1);clear h1 V W
         by_cases A:p=[]
         ·have y:(str p).toList.isEmpty=true:=by rw[bh];simpa using A
          have H:Hid (cr out p=out):=Qh (by unfold cr;rw[if_pos (.inl A)]);clear A;go_wp2
          go_round
          case rel=>exact⟨k+1,k+1,out,by omega,by omega,rfl,by go_num,by go_num,by have:=J.out;rw[H.out]at this;exact this⟩
          case measure=>simp[RowKit.intOf];omega
         ·have y:(str p).toList.isEmpty=false:=by rw[bh];simpa using A
          by_cases D:p=[46]
          ·have z:((str p).toList==[46])=true:=by rw[p9];simpa using D
           have H:Hid (cr out p=out):=Qh (by unfold cr;rw[if_pos (.inr D)]);clear A D;go_wp2
           go_round
           case rel=>exact⟨k+1,k+1,out,by omega,by omega,rfl,by go_num,by go_num,by have:=J.out;rw[H.out]at this;exact this⟩
           case measure=>simp[RowKit.intOf];omega
          ·have z:((str p).toList==[46])=false:=by rw[p9];simpa using D
           by_cases I:out=[]
           ·have b4:(str out).toList.isEmpty=true:=by rw[bh];simpa using I
            have H:Hid (str out++str p=str (cr out p)):=Qh (by unfold cr;rw[if_neg (fun h=>h.elim A D),if_pos I,lu,I];rfl);clear A D I;go_wp2
            go_round
            case rel=>exact⟨k+1,k+1,cr out p,by omega,by omega,by rw[←H.out],by go_num,by go_num,J⟩
            case measure=>simp[RowKit.intOf];omega
           ·have b4:(str out).toList.isEmpty=false:=by rw[bh];simpa using I
            have H:Hid (str out++⟨#[47]⟩++str p=str (cr out p)):=Qh (by unfold cr;rw[if_neg (fun h=>h.elim A D),if_neg I,show(⟨#[47]⟩:ByteArray)=str [47]from rfl,lu,lu];simp);clear A D I;go_wp2
            go_round
            case rel=>exact⟨k+1,k+1,cr out p,by omega,by omega,by rw[←H.out],by go_num,by go_num,J⟩
            case measure=>simp[RowKit.intOf];omega
       ·have l:(((s[k]).toNat:Int)==47)=false:=by
         have:¬(s[k]).toNat=47:=fun e=>hc (UInt8.toNat_inj.1 e)
         simp;omega
        have J:Hid (Xc s G (k+1) a out):=Qh ⟨L.out.1,.inl ⟨by omega,uh,fun j h1 A=>by
         rcases Nat.lt_succ_iff_lt_or_eq.1 A with D|rfl
         ·exact L.out.2.1 j h1 D
         ·rw[←c];exact hc,L.out.2.2⟩⟩
        clear c hc;go_wp2
        go_round
        case rel=>exact⟨a,k+1,out,by omega,by omega,rfl,rfl,by go_num,J⟩
        case measure=>simp[RowKit.intOf];omega
      ·have he:k=s.size∨s.data.toList.getD k 0=47:=.inl (by omega)
       obtain⟨p,N⟩:∃p,p=(s.data.toList.drop a).take (k - a):=⟨_,rfl⟩
       obtain⟨V,W⟩:=EL s G k a out p L.out.1 M d L.out.2.1 L.out.2.2 N he;have m:s.extract a k=str p:=by rw[Ph,N]
       have f:(str out).size+1+(str p).size≤9223372036854775807:=by
        rw[ax,ax,N,zv _ _ _ (by rw[←jv];exact d) M];have:=L.out.1;omega
       have q:(str out).size+1≤9223372036854775807:=by omega
       have r:(str out++⟨#[47]⟩).size+(str p).size≤9223372036854775807:=by rw[ByteArray.size_append];exact f
       have u:(str out).size+(str p).size≤9223372036854775807:=by omega
       clear N he
       by_cases h1:p=[46,46]
       ·have b1:((str p).toList==[46,46])=true:=by rw[p9];simpa using h1
        have B:=g.out;rw[V h1]at B;simp only at B;subst B;clear h1 V W;go_wp2;go_ret2;exact⟨rfl,rfl⟩
       ·have b1:((str p).toList==[46,46])=false:=by rw[p9];simpa using h1
        have J:=Qh (W h1);clear h1 V W
        by_cases A:p=[]
        ·have y:(str p).toList.isEmpty=true:=by rw[bh];simpa using A
         have H:Hid (cr out p=out):=Qh (by unfold cr;rw[if_pos (.inl A)]);clear A;go_wp2
         go_round
         case rel=>exact⟨k+1,k+1,out,by omega,by omega,rfl,by go_num,by go_num,by have:=J.out;rw[H.out]at this;exact this⟩
         case measure=>simp[RowKit.intOf];omega
        ·have y:(str p).toList.isEmpty=false:=by rw[bh];simpa using A
         by_cases D:p=[46]
         ·have z:((str p).toList==[46])=true:=by rw[p9];simpa using D
          have H:Hid (cr out p=out):=Qh (by unfold cr;rw[if_pos (.inr D)]);clear A D;go_wp2
          go_round
          case rel=>exact⟨k+1,k+1,out,by omega,by omega,rfl,by go_num,by go_num,by have:=J.out;rw[H.out]at this;exact this⟩
          case measure=>simp[RowKit.intOf];omega
         ·have z:((str p).toList==[46])=false:=by rw[p9];simpa using D
          by_cases I:out=[]
          ·have b4:(str out).toList.isEmpty=true:=by rw[bh];simpa using I
           have H:Hid (str out++str p=str (cr out p)):=Qh (by unfold cr;rw[if_neg (fun h=>h.elim A D),if_pos I,lu,I];rfl);clear A D I;go_wp2
           go_round
           case rel=>exact⟨k+1,k+1,cr out p,by omega,by omega,by rw[←H.out],by go_num,by go_num,J⟩
           case measure=>simp[RowKit.intOf];omega
          ·have b4:(str out).toList.isEmpty=false:=by rw[bh];simpa using I
           have H:Hid (str out++⟨#[47]⟩++str p=str (cr out p)):=Qh (by unfold cr;rw[if_neg (fun h=>h.elim A D),if_neg I,show(⟨#[47]⟩:ByteArray)=str [47]from rfl,lu,lu];simp);clear A D I;go_wp2
           go_round
           case rel=>exact⟨k+1,k+1,cr out p,by omega,by omega,by rw[←H.out],by go_num,by go_num,J⟩
           case measure=>simp[RowKit.intOf];omega
     ·obtain rfl:k=s.size+1:=by omega
      have hl:¬(((s.size+1:Nat):Int)≤(s.size:Int)):=by omega
      have O:G=some out:=by
       obtain⟨h1,⟨_,A,_⟩|⟨_,_,A⟩⟩:=Y.out
       ·omega
       ·exact A
      have B:=g.out;rw[O]at B;simp only at B;obtain⟨n,hn⟩:∃n,(str out).size=n:=⟨_,rfl⟩
      have T:n=out.length:=by rw[←hn,ax]
      by_cases U:out=[]
      ·have ch:(str out).toList.isEmpty=true:=by rw[bh];simpa using U
       rw[if_pos (.inl U)]at B;subst B;clear U O T Y;go_wp2;go_ret2;exact⟨rfl,rfl⟩
      ·have ch:(str out).toList.isEmpty=false:=by rw[bh];simpa using U
       by_cases A:200<out.length
       ·have cj:(200:Int)<(n:Int):=by omega
        rw[if_pos (.inr A)]at B;subst B;clear U O T Y A;go_wp2;go_ret2;exact⟨rfl,rfl⟩
       ·have cj:¬(200:Int)<(n:Int):=by omega
        rw[if_neg (fun h=>h.elim U A)]at B;subst B;clear U O T Y A;go_wp2;go_ret2;exact⟨rfl,rfl⟩
end Path
namespace Rec
theorem iD {w w':World} {B:Nat} {e:TypeId} {k:Nat} {v:Value} {n:Nat} {xs:List Value} (h:w.ownsRow B e k v n xs) (hb:Below w.heap.size w w'):w'.ownsRow B e k v n xs:=by
 refine⟨h.1,?_⟩;rcases h.2 with D|⟨g,cap,cur,rfl,E,A,G⟩
 ·exact .inl D
 ·exact .inr ⟨g,cap,cur,rfl,E,by rw[hb.block g (Array.getElem?_eq_some_iff.1 A).1];exact A,G⟩
end Rec
namespace cb
open Go.Lib
theorem FV (w:World) (e:TypeId) (s:ByteArray):Below w.heap.size w (bytesWorld w e s):=
 ⟨rfl,rfl,rfl,by rw[bytesWorld_size];omega,fun k hk=>bytesWorld_at_old w e s k hk⟩
end cb
end Go.Proofs.YtdhibldkldlfpaaGreatDoor
