/- Texts of this seat, merged: what the proof reaches. -/
import Derived.Test.YtfpoipamioaklaaRows
import Derived.WalkKit
import Derived.ProofKit
import Derived.Lib.Hide
import Derived.IntWalk
import Derived.WalkSmall
import Derived.Outline
import Derived.Deep.QuietTactic
import Derived.BigQuiet
import Derived.Laws.BytesArg
import Derived.Laws.OwnMore
import Derived.OwnWalk
import Derived.Deep.Draws
import Derived.Lib.Bytes
import Derived.Lib.IndexLaws
import Derived.Lib.Strings
import Derived.Laws.Strings3
import Derived.MapKept
import Derived.Laws.StructEq
import Derived.Test.YtfpoipamioaklaaStorePlaysX1
namespace Go.Proofs.Ytfpoipamioaklaa
namespace Base
end Base
namespace Byt
end Byt
end Go.Proofs.Ytfpoipamioaklaa
section
namespace Go.Proofs.Ytfpoipamioaklaa.Base
open Go.RowKit Go.ChangeShapes Go.WideShapes
theorem own:ownKnob Try.prog.godebug=none:=by kernel_rfl
theorem laidOut:laidOutB Try.prog=true:=by kernel_rfl
def IsRow (k:IntKind) (w:World) (a:Option Addr) (len cap:Nat) (zs:List Int):Prop:=
 (a=none∧len=0∧cap=0∧zs=[]) ∨
 ∃ x,a=some x∧len≤cap∧cap≤maxLen∧zs.length=cap∧(∀ i,i < zs.length → w.cell? (x.add i)=some (.int k (zs.getD i 0))) ∧ ∀ n ∈ zs,(Lit.int k n).wf=true
theorem row_at {k:IntKind} {w:World} {a:Option Addr} {len cap:Nat} {zs:List Int} (h:IsRow k w a len cap zs) (hl:0 < len) :
 ∃ b off,a=some ⟨b,off,none⟩∧len≤cap∧cap≤maxLen∧zs.length=cap∧b < w.heap.size∧(∀ i,i < len → w.cell? ⟨b,off+i,none⟩=some (.int k ((zs.take len).getD i 0)))∧(zs.take len).length=len:=by
 rcases h with ⟨_,h,_,_⟩ | ⟨x,rfl,h1,h2,h3,h4,_⟩
 ·omega
 ·obtain ⟨b,off,spot⟩:=x
  have hspot:spot=none:=by simpa [Addr.add] using World.cell?_spot (h4 0 (by omega))
  subst hspot;refine ⟨b,off,rfl,h1,h2,h3,?_,?_,?_⟩
  ·exact World.block_lt_of_cell? w _ (by simpa [Addr.add] using h4 0 (by omega))
  ·intro i hi
   rw [← WideShapes.add_plain,h4 i (by omega)]
   simp [List.getD,hi]
  ·rw [List.length_take];omega
end Go.Proofs.Ytfpoipamioaklaa.Base
end
section
namespace Go.Proofs.Ytfpoipamioaklaa.Byt
open Go.ChangeShapes Go.WideShapes Go.ChangeAt Go.RowKit Base Go.Lib
set_option linter.unusedVariables false
def BAt (w:World) (p:Option Addr) (n:Nat) (bs:List UInt8):Prop:=
 0 < n → ∃ b o,p=some ⟨b,o,none⟩ ∧ ∀ i,i < n → w.cell? ⟨b,o+i,none⟩=some (.int .u8 (bs.getD i 0).toNat)
section
variable {w w':World} {p:Option Addr} {n:Nat} {bs:List UInt8}
theorem BAt.cell (h:BAt w p n bs) {k:Nat} (hk:k < n) :
 ∃ b o,p=some ⟨b,o,none⟩∧b < w.heap.size ∧ ∀ i,i < n → w.cell? ⟨b,o+i,none⟩=some (.int .u8 (bs.getD i 0).toNat):=by
 obtain ⟨b,o,rfl,hc⟩:=h (by omega)
 exact ⟨b,o,rfl,World.block_lt_of_cell? _ _ (hc k hk),hc⟩
theorem BAt.below (h:BAt w p n bs) (hb:Below w.heap.size w w'):BAt w' p n bs:=fun hn => by
 obtain ⟨b,o,rfl,hbw,hc⟩:=h.cell hn;exact ⟨b,o,rfl,fun i hi => by rw [hb.cell (p:=⟨b,o+i,none⟩) hbw];exact hc i hi⟩
theorem BAt.none_ (w:World) (p:Option Addr):BAt w p 0 []:=fun h => absurd h (by omega)
theorem BAt.alloc (h:BAt w p n bs) (o:Obj):BAt (w.alloc o) p n bs:=h.below ((Below.refl _ _).alloc (Nat.le_refl _) o)
theorem BAt.drop (h:BAt w p n bs) {k c:Nat} (hk:k≤n) (hc:n≤c) (hl:bs.length=n):BAt w (if c=k then p else p.map (·.add k)) (n - k) (bs.drop k):=fun hn => by
 obtain ⟨b,o,rfl,hcell⟩:=h (by omega)
 rw [if_neg (by omega)]
 refine ⟨b,o+k,by simp [WideShapes.add_plain],fun i hi => ?_⟩
 rw [Nat.add_assoc,hcell (k+i) (by omega)]
 simp [List.getD]
theorem BAt.take (h:BAt w p n bs) {k:Nat} (hk:k≤n):BAt w p k (bs.take k):=fun hn => by
 obtain ⟨b,o,rfl,hc⟩:=h (by omega)
 exact ⟨b,o,rfl,fun i hi => by rw [hc i (by omega)];simp [List.getD,hi]⟩
end
theorem bytesOf_getD (xs:List Int) (i:Nat) (h:i < xs.length) (hx:∀ x ∈ xs,0≤x∧x < 256):(((bytesOf xs).getD i 0).toNat:Int)=xs.getD i 0:=by
 have hm:=hx xs[i] (List.getElem_mem h);have e:(bytesOf xs).getD i 0=UInt8.ofNat (xs[i]).toNat:=by simp [bytesOf,List.getD,h]
 rw [e,UInt8.toNat_ofNat'];simp [List.getD,h];omega
theorem wf8 {n:Int} (h:(Lit.int .u8 n).wf=true):0≤n∧n < 256:=by
 have h1:IntKind.u8.min=0:=rfl;have h2:IntKind.u8.max=255:=rfl;simp only [Lit.wf,Bool.and_eq_true,decide_eq_true_eq] at h;omega
theorem bat_of_ints {w:World} {p:Option Addr} {n:Nat} {xs:List Int} (hn:xs.length=n) (hx:∀ x ∈ xs,0≤x∧x < 256)
 (h:0 < n → ∃ b o,p=some ⟨b,o,none⟩ ∧ ∀ i,i < n → w.cell? ⟨b,o+i,none⟩=some (.int .u8 (xs.getD i 0))):BAt w p n (bytesOf xs):=fun h0 => by
 obtain ⟨b,o,rfl,hc⟩:=h h0;exact ⟨b,o,rfl,fun i hi => by rw [hc i hi,bytesOf_getD xs i (by omega) hx]⟩
theorem bat_of_row {w:World} {a:Option Addr} {len cap:Nat} {zs:List Int} (h:IsRow .u8 w a len cap zs):BAt w a len (bytesOf (zs.take len))∧(bytesOf (zs.take len)).length=len∧len≤cap∧cap≤maxLen:=by
 have hb:∀ x ∈ zs.take len,0≤x∧x < 256:=fun x hx => by
  rcases h with ⟨_,_,_,rfl⟩ | ⟨_,_,_,_,_,_,h⟩
  ·simp at hx
  ·exact wf8 (h x (List.mem_of_mem_take hx))
 have hl:(zs.take len).length=len∧len≤cap∧cap≤maxLen:=by
  rcases h with ⟨_,rfl,rfl,rfl⟩ | ⟨_,_,h1,h2,h3,_,_⟩
  ·exact ⟨rfl,by omega,by omega⟩
  ·exact ⟨by rw [List.length_take];omega,h1,h2⟩
 refine ⟨bat_of_ints hl.1 hb fun h0 => ?_,by rw [bytesOf_length];exact hl.1,hl.2.1,hl.2.2⟩
 obtain ⟨b,off,rfl,_,_,_,_,h5,_⟩:=row_at h h0;exact ⟨b,off,rfl,h5⟩
theorem bytesOf_str (bs:List UInt8):strOfNums (bs.map fun x => (x.toNat:Int))=⟨bs.toArray⟩:=by
 apply ByteArray.ext;apply Array.toList_inj.1;rw [strOfNums_data,List.map_map];show _=bs
 conv => rhs;rw [← List.map_id bs]
 apply List.map_congr_left;intro x _;simp
theorem conv_at {P:Program} {w:World} {p:Option Addr} {n:Nat} {bs:List UInt8} (h:BAt w p n bs) (hn:bs.length=n) (src e dst:TypeId) (hs:P.underlying src=some (.slice e)) (he:P.underlying e=some (.int .u8)) (hd:P.underlying dst=some .string) (c:Nat) :
 (convert src dst (.slice p n c)).run P w=.ok (.string ⟨bs.toArray⟩) w:=by
 by_cases h0:0 < n
 ·obtain ⟨b,o,rfl,hc⟩:=h h0
  rw [run_convert_bytes_arg w src e hs he b o n c (bs.map fun x => (x.toNat:Int)) (by simpa using hn) (fun i hi => by
   rw [hc i hi];simp [List.getD,List.getElem?_eq_getElem (show i < bs.length by omega)]) dst hd,bytesOf_str]
 ·obtain rfl:n=0:=by omega
  obtain rfl:bs=[]:=List.eq_nil_of_length_eq_zero hn;rcases p with _ | a
  ·rw [run_convert_bytes_nil w src e hs he 0 c dst hd];rfl
  ·have hl:(loadCells a 0).run P w=.ok (([]:List Int).map (Value.int .u8)).toArray w:=by
    have:=run_loadCells_list (P:=P) w a [] (fun j v hj => by simp at hj)
    simpa using this
   rw [run_convert_bytes_string w src dst e _ 0 c hs he hd,run_bytesToString w a 0 c [] hl];rfl
theorem bat_of_own {w:World} {base:Nat} {e:TypeId} {v:Value} {n:Nat} {xs:List Int} (h:w.ownsRow base e 1 v n (xs.map (Value.int .u8))) (hx:∀ x ∈ xs,0≤x∧x < 256) :
 ∃ p c,v=.slice p n c∧n≤c∧c≤maxLen∧BAt w p n (bytesOf xs)∧(bytesOf xs).length=n:=by
 have hl:xs.length=n:=by have:=h.1;simpa using this
 have hl':(bytesOf xs).length=n:=by rw [bytesOf_length];exact hl
 rcases h.2 with ⟨rfl,rfl⟩ | ⟨g,cap,cur,rfl,_,_,h1,h2,_⟩
 ·exact ⟨none,0,rfl,by omega,by omega,fun h => absurd h (by omega),hl'⟩
 ·refine ⟨some ⟨g,0,none⟩,cap,rfl,h1,h2,bat_of_ints hl hx fun h0 => ⟨g,0,rfl,fun i hi => ?_⟩,hl'⟩
  rw [Nat.zero_add,h.cellAt i (by omega),List.getElem?_map,List.getElem?_eq_getElem (by omega)]
  simp [List.getD,hl,hi]
end Go.Proofs.Ytfpoipamioaklaa.Byt
end
section
namespace Go.Proofs.Ytfpoipamioaklaa.Txt
open Go.ChangeShapes Go.WideShapes Go.ChangeAt Go.RowKit Base Byt Go.Lib
set_option linter.unusedVariables false
def str (l:List UInt8):ByteArray:=⟨l.toArray⟩
theorem str_size (l:List UInt8):(str l).size=l.length:=by simp [str,ByteArray.size]
end Go.Proofs.Ytfpoipamioaklaa.Txt
end
section
namespace Go.Proofs.Ytfpoipamioaklaa.Sto
set_option linter.unusedVariables false
structure SM where
 room:Nat
 fails:List Int
 runs:List (List UInt8 × Bool)
 writes:Nat
 peak:Nat
def newS (room:Int) (fails:List Int):SM:=⟨room.toNat,fails,[],0,0⟩
def hasS (M:SM) (id:Int):Bool:=decide (0≤id∧id < M.runs.length) && (M.runs.getD id.toNat ([],false)).2
def runS (M:SM) (id:Int):List UInt8:=if hasS M id=true then (M.runs.getD id.toNat ([],false)).1 else []
def usedR (l:List (List UInt8 × Bool)):Nat:=(l.map fun r => if r.2=true then r.1.length else 0).sum
def usedS (M:SM):Nat:=usedR M.runs
def createS (M:SM):SM:={ M with runs:=M.runs++[([],true)] }
def putS14 (M:SM) (id:Int) (b:List UInt8):SM:=
 { M with runs:=M.runs.set id.toNat ((M.runs.getD id.toNat ([],false)).1++b,true),writes:=M.writes+1,peak:=max M.peak (usedR (M.runs.set id.toNat ((M.runs.getD id.toNat ([],false)).1++b,true))) }
def appendS (M:SM) (id:Int) (b:List UInt8):Int × SM:=
 if hasS M id=false then (14,M)
 else if (M.writes:Int) ∈ M.fails then (13,{ M with writes:=M.writes+1 })
 else if M.room < usedS M+b.length then (12,{ M with writes:=M.writes+1 })
 else (0,putS14 M id b)
def readS (M:SM) (id at_ n:Int):List UInt8 × Int:=
 if hasS M id=false then ([],14)
 else if at_ < 0 ∨ n < 0 ∨ (runS M id).length < at_ then ([],1)
 else (((runS M id).drop at_.toNat).take n.toNat,0)
def dropS (M:SM) (id:Int):Int × SM:=
 if hasS M id=false then (14,M) else (0,{ M with runs:=M.runs.set id.toNat ((M.runs.getD id.toNat ([],false)).1,false) })
structure SmallS (M:SM):Prop where
 runs:M.runs.length≤1000
 each:∀ r ∈ M.runs,r.1.length≤1000000
 writes:M.writes≤1000000
 peak:M.peak≤1000000000
 fails:M.fails.length≤1000
theorem sum_le (l:List Nat) (c:Nat) (h:∀ x ∈ l,x≤c):l.sum≤l.length * c:=by
 induction l with
 | nil => simp
 | cons x l ih =>
   rw [List.sum_cons,List.length_cons,Nat.add_mul,Nat.one_mul];have:=ih fun y hy => h y (List.mem_cons_of_mem _ hy)
   have:=h x (List.mem_cons_self ..);omega
theorem SmallS.used {M:SM} (h:SmallS M):usedS M≤1000000000:=by
 unfold usedS usedR
 have:=sum_le (M.runs.map fun r => if r.2=true then r.1.length else 0) 1000000 (fun x hx => by
  obtain ⟨r,hr,rfl⟩:=List.mem_map.1 hx;have:=h.each r hr
  split<;>omega)
 rw [List.length_map] at this;have:=h.runs;have:M.runs.length * 1000000≤1000 * 1000000:=Nat.mul_le_mul_right _ this;omega
theorem usedR_append (a b:List (List UInt8 × Bool)):usedR (a++b)=usedR a+usedR b:=by unfold usedR;rw [List.map_append,List.sum_append]
theorem usedR_set {l:List (List UInt8 × Bool)}:∀ {k:Nat},k < l.length → ∀ x:List UInt8 × Bool,usedR (l.set k x)+(if (l.getD k ([],false)).2=true then (l.getD k ([],false)).1.length else 0)=usedR l+(if x.2=true then x.1.length else 0):=by
 induction l with
 | nil => intro k h;simp at h
 | cons y l ih =>
   intro k h x
   cases k with
   | zero =>
     unfold usedR;simp only [List.set_cons_zero,List.map_cons,List.sum_cons,List.getD_cons_zero];omega
   | succ k =>
     have:=ih (by simpa using h) x
     unfold usedR at this ⊢;simp only [List.set_cons_succ,List.map_cons,List.sum_cons,List.getD_cons_succ];omega
theorem has_iff {M:SM} {id:Int}:hasS M id=true ↔ ∃ k:Nat,id=(k:Int)∧k < M.runs.length∧(M.runs.getD k ([],false)).2=true:=by
 unfold hasS;rw [Bool.and_eq_true,decide_eq_true_eq];constructor
 ·rintro ⟨⟨h1,h2⟩,h3⟩
  exact ⟨id.toNat,by omega,by omega,h3⟩
 ·rintro ⟨k,rfl,h2,h3⟩
  exact ⟨⟨by omega,by omega⟩,by simpa using h3⟩
theorem runS_some {M:SM} {k:Nat} (h:hasS M (k:Int)=true):runS M (k:Int)=(M.runs.getD k ([],false)).1:=by
 unfold runS;rw [if_pos h];rfl
theorem runS_none {M:SM} {id:Int} (h:hasS M id=false):runS M id=[]:=by
 unfold runS;rw [if_neg (by rw [h];decide)]
theorem appendS_none {M:SM} {id:Int} {b:List UInt8} (h:hasS M id=false):appendS M id b=(14,M):=by unfold appendS;rw [if_pos h]
theorem appendS_io {M:SM} {id:Int} {b:List UInt8} (h:hasS M id=true) (hf:(M.writes:Int) ∈ M.fails):appendS M id b=(13,{ M with writes:=M.writes+1 }):=by unfold appendS;rw [if_neg (by rw [h];decide),if_pos hf]
theorem appendS_full {M:SM} {id:Int} {b:List UInt8} (h:hasS M id=true) (hf:¬ (M.writes:Int) ∈ M.fails) (hr:M.room < usedS M+b.length):appendS M id b=(12,{ M with writes:=M.writes+1 }):=by unfold appendS;rw [if_neg (by rw [h];decide),if_neg hf,if_pos hr]
theorem appendS_ok {M:SM} {id:Int} {b:List UInt8} (h:hasS M id=true) (hf:¬ (M.writes:Int) ∈ M.fails) (hr:¬ M.room < usedS M+b.length):appendS M id b=(0,putS14 M id b):=by unfold appendS;rw [if_neg (by rw [h];decide),if_neg hf,if_neg hr]
end Go.Proofs.Ytfpoipamioaklaa.Sto
end
section
namespace Go.Proofs.Ytfpoipamioaklaa.Sto
set_option linter.unusedVariables false
structure FullJ (R i:Nat) (M:SM) (U:Nat) (ids szs:List Int):Prop where
 room:M.room=R
 fails:M.fails=[]
 runs:M.runs.length=i
 writes:M.writes=i
 peak:M.peak≤R
 used:usedS M=U
 le:U≤R
 len:ids.length=szs.length
 cnt:ids.length≤i
 each:∀ q,q < ids.length → ∃ k:Nat,ids.getD q 0=(k:Int)∧k < i∧(M.runs.getD k ([],false)).2=true∧((M.runs.getD k ([],false)).1.length:Int)=szs.getD q 0
 dist:ids.Nodup
 small:∀ r ∈ M.runs,r.1.length≤255
theorem getDR_app (l:List (List UInt8 × Bool)) (x:List UInt8 × Bool):(l++[x]).getD l.length ([],false)=x:=by
 rw [List.getD,List.getElem?_append_right (Nat.le_refl _),Nat.sub_self];rfl
theorem getDR_left (l:List (List UInt8 × Bool)) (x:List UInt8 × Bool) {k:Nat} (h:k < l.length):(l++[x]).getD k ([],false)=l.getD k ([],false):=by
 rw [List.getD,List.getElem?_append_left h,List.getD]
theorem getDR_set (l:List (List UInt8 × Bool)) (x:List UInt8 × Bool) {k j:Nat} (hk:k < l.length):(l.set k x).getD j ([],false)=if j=k then x else l.getD j ([],false):=by
 rw [List.getD,List.getElem?_set,List.getD]
 by_cases h:k=j
 ·subst h;simp [hk]
 ·rw [if_neg h,if_neg (fun e => h e.symm)]
theorem FullJ.start (R:Nat):FullJ R 0 ⟨R,[],[],0,0⟩ 0 [] []:=⟨rfl,rfl,rfl,rfl,Nat.zero_le _,rfl,Nat.zero_le _,rfl,Nat.le_refl _,fun q h => by simp at h,List.nodup_nil,fun r h => by simp at h⟩
section
variable {R i:Nat} {M:SM} {U:Nat} {ids szs:List Int}
theorem FullJ.create (h:FullJ R i M U ids szs) (hi:i≤200) (hR:R≤65535):SmallS (createS M)∧hasS (createS M) (i:Int)=true∧((createS M).runs.getD i ([],false))=([],true)∧usedS (createS M)=U∧(createS M).runs.length=i+1:=by
 have e1:(createS M).runs.getD i ([],false)=([],true):=by
  show (M.runs++[([],true)]).getD i ([],false)=_;rw [← h.runs];exact getDR_app _ _
 have e2:(createS M).runs.length=i+1:=by
  show (M.runs++[([],true)]).length=_;rw [List.length_append,h.runs];rfl
 refine ⟨⟨by rw [e2];omega,fun r hr => ?_,by show M.writes≤_;rw [h.writes];omega,by show M.peak≤_;have:=h.peak;omega,by show M.fails.length≤_;rw [h.fails];simp⟩,has_iff.2 ⟨i,rfl,by omega,by rw [e1]⟩,e1,?_,e2⟩
 ·rcases List.mem_append.1 hr with hr | hr
  ·have:=h.small r hr;omega
  ·rw [List.mem_singleton.1 hr];simp
 ·show usedR (M.runs++[([],true)])=U
  rw [usedR_append,← h.used];rfl
theorem FullJ.ok (h:FullJ R i M U ids szs) (hi:i≤200) (hR:R≤65535) {b:List UInt8} (hb:¬ R < U+b.length) (h255:b.length≤255):∃ M2,appendS (createS M) (i:Int) b=(0,M2)∧FullJ R (i+1) M2 (U+b.length) (ids++[(i:Int)]) (szs++[(b.length:Int)]):=by
 obtain ⟨c1,c2,c3,c4,c5⟩:=h.create hi hR;have e0:((i:Int)).toNat=i:=by simp
 have hrun:(putS14 (createS M) (i:Int) b).runs=(createS M).runs.set i (b,true):=by
  unfold putS14;show (createS M).runs.set ((i:Int)).toNat (((createS M).runs.getD ((i:Int)).toNat ([],false)).1++b,true)=_;rw [e0,c3];rfl
 have hu:usedR ((createS M).runs.set i (b,true))=U+b.length:=by
  have h1:=usedR_set (l:=(createS M).runs) (k:=i) (by omega) (b,true)
  rw [c3] at h1;have h2:usedR (createS M).runs=U:=c4;rw [h2] at h1
  simpa using h1
 have hget:∀ k,k < i → ((createS M).runs.set i (b,true)).getD k ([],false)=M.runs.getD k ([],false):=fun k hk => by
  rw [getDR_set _ _ (by omega),if_neg (by omega)]
  exact getDR_left _ _ (by rw [h.runs];exact hk)
 refine ⟨_,appendS_ok c2 (by show ¬ (M.writes:Int) ∈ M.fails;rw [h.fails];simp) (by rw [c4];show ¬ M.room < _;rw [h.room];exact hb),?_⟩
 exact
 { room:=h.room
   fails:=h.fails
   runs:=by rw [hrun,List.length_set];exact c5
   writes:=by show M.writes+1=_;rw [h.writes]
   peak:=by
    have e:(putS14 (createS M) (i:Int) b).peak=max M.peak (usedR (putS14 (createS M) (i:Int) b).runs):=rfl;rw [e,hrun,hu];have:=h.peak;omega
   used:=by unfold usedS;rw [hrun];exact hu
   le:=by omega
   len:=by rw [List.length_append,List.length_append,h.len];rfl
   cnt:=by have:=h.cnt;rw [List.length_append,List.length_singleton];omega
   each:=fun q hq => by
    rw [hrun]
    by_cases hql:q < ids.length
    ·obtain ⟨k,h1,h2,h3,h4⟩:=h.each q hql
     refine ⟨k,?_,by omega,?_,?_⟩
     ·rw [List.getD,List.getElem?_append_left hql];exact h1
     ·rw [hget k h2];exact h3
     ·rw [hget k h2,h4,List.getD,List.getD,List.getElem?_append_left (by rw [← h.len];exact hql)]
    ·rw [List.length_append] at hq
     obtain rfl:q=ids.length:=by simp at hq;omega
     refine ⟨i,?_,by omega,?_,?_⟩
     ·rw [List.getD,List.getElem?_append_right (Nat.le_refl _),Nat.sub_self];rfl
     ·rw [getDR_set _ _ (by omega),if_pos rfl]
     ·rw [getDR_set _ _ (by omega),if_pos rfl,List.getD,List.getElem?_append_right (by rw [h.len];exact Nat.le_refl _),h.len,Nat.sub_self];rfl
   dist:=by
    refine List.nodup_append.2 ⟨h.dist,by simp,fun x hx y hy e => ?_⟩
    rw [List.mem_singleton.1 hy] at e;obtain ⟨q,hq,hqx⟩:=List.mem_iff_getElem.1 hx;obtain ⟨k,h1,h2,_⟩:=h.each q hq;rw [List.getD,List.getElem?_eq_getElem hq] at h1;simp only [Option.getD_some] at h1;omega
   small:=fun r hr => by
    rw [hrun] at hr;rcases List.mem_or_eq_of_mem_set hr with hr | rfl
    ·rcases List.mem_append.1 hr with hr | hr
     ·exact h.small r hr
     ·rw [List.mem_singleton.1 hr];simp
    ·exact h255 }
theorem FullJ.drop (h:FullJ R i M U ids szs) (h0:0 < ids.length):∃ M2 z:_,dropS M (ids.getD 0 0)=(0,M2)∧szs.getD 0 0=((z:Nat):Int)∧z≤U∧z≤255∧FullJ R i M2 (U - z) ids.tail szs.tail:=by
 obtain ⟨k,h1,h2,h3,h4⟩:=h.each 0 h0;have hk:k < M.runs.length:=by rw [h.runs];exact h2
 have hhas:hasS M (k:Int)=true:=has_iff.2 ⟨k,rfl,hk,h3⟩;have e0:((k:Int)).toNat=k:=by simp
 obtain ⟨z,hz⟩:∃ z,(M.runs.getD k ([],false)).1.length=z:=⟨_,rfl⟩;have hmem:M.runs.getD k ([],false) ∈ M.runs:=by rw [List.getD,List.getElem?_eq_getElem hk];exact List.getElem_mem hk
 have hu:=usedR_set (l:=M.runs) hk ((M.runs.getD k ([],false)).1,false);rw [h3,hz] at hu;have hus:usedR M.runs=U:=h.used;rw [hus] at hu;simp only [if_true,Bool.false_eq_true,if_false,Nat.add_zero] at hu;refine ⟨{ M with runs:=M.runs.set k ((M.runs.getD k ([],false)).1,false) },z,?_,by rw [← h4,hz],by omega,by rw [← hz];exact h.small _ hmem,?_⟩
 ·rw [h1]
  unfold dropS;rw [if_neg (by rw [hhas];decide),e0]
 ·exact
  { room:=h.room
    fails:=h.fails
    runs:=by show (M.runs.set k _).length=i;rw [List.length_set,h.runs]
    writes:=h.writes
    peak:=h.peak
    used:=by show usedR (M.runs.set k _)=_;omega
    le:=by have:=h.le;omega
    len:=by rw [List.length_tail,List.length_tail,h.len]
    cnt:=by have:=h.cnt;rw [List.length_tail];omega
    each:=fun q hq => by
     rw [List.length_tail] at hq;obtain ⟨j,j1,j2,j3,j4⟩:=h.each (q+1) (by omega)
     have hne:j≠k:=fun e => by
      subst e;have hq1:q+1 < ids.length:=by omega
      rw [List.getD,List.getElem?_eq_getElem h0] at h1;rw [List.getD,List.getElem?_eq_getElem hq1] at j1;simp only [Option.getD_some] at h1 j1;have:=(List.getElem_inj h.dist).1 (h1.trans j1.symm);omega
     have e1:∀ l:List Int,l.tail.getD q 0=l.getD (q+1) 0:=fun l => by cases l<;>simp [List.getD]
     refine ⟨j,by rw [e1];exact j1,j2,?_,?_⟩
     ·show ((M.runs.set k _).getD j ([],false)).2=true
      rw [getDR_set _ _ hk,if_neg hne];exact j3
     ·show (((M.runs.set k _).getD j ([],false)).1.length:Int)=_
      rw [getDR_set _ _ hk,if_neg hne,e1];exact j4
    dist:=h.dist.sublist (List.tail_sublist _)
    small:=fun r hr => by
     rcases List.mem_or_eq_of_mem_set hr with hr | rfl
     ·exact h.small r hr
     ·show (M.runs.getD k ([],false)).1.length≤255
      exact h.small _ hmem }
end
end Go.Proofs.Ytfpoipamioaklaa.Sto
end
section
namespace Go.Proofs.Ytfpoipamioaklaa.Sto
set_option linter.unusedVariables false
theorem has_nat (M:SM) (k:Nat):hasS M (k:Int)=(decide (k < M.runs.length) && (M.runs.getD k ([],false)).2):=by
 unfold hasS
 have e:decide (0≤(k:Int)∧(k:Int) < (M.runs.length:Int))=decide (k < M.runs.length):=by
  by_cases h:k < M.runs.length
  ·rw [decide_eq_true h,decide_eq_true (by omega)]
  ·rw [decide_eq_false h,decide_eq_false (by omega)]
 rw [e];rfl
theorem has_neg (M:SM) {i:Int} (h:i < 0):hasS M i=false:=by
 unfold hasS;rw [decide_eq_false (by omega)]
 rfl
theorem has_create (M:SM) (i:Int):hasS (createS M) i=if i=(M.runs.length:Int) then true else hasS M i:=by
 by_cases h0:i < 0
 ·rw [has_neg _ h0,has_neg _ h0,if_neg (by omega)]
 obtain ⟨k,rfl⟩:∃ k:Nat,i=(k:Int):=⟨i.toNat,by omega⟩
 rw [has_nat,has_nat];show (decide (k < (M.runs++[([],true)]).length) && ((M.runs++[([],true)]).getD k ([],false)).2)=_
 by_cases h:(k:Int)=(M.runs.length:Int)
 ·obtain rfl:k=M.runs.length:=by omega
  rw [if_pos rfl,getDR_app,decide_eq_true (by simp)]
  rfl
 ·rw [if_neg h]
  by_cases hk:k < M.runs.length
  ·have e:k < (M.runs++[(([]:List UInt8),true)]).length:=by rw [List.length_append];omega
   rw [getDR_left _ _ hk,decide_eq_true e,decide_eq_true hk]
  ·have e:¬ k < (M.runs++[(([]:List UInt8),true)]).length:=by rw [List.length_append];simp only [List.length_cons,List.length_nil];omega
   rw [decide_eq_false e,decide_eq_false hk];rfl
theorem run_create (M:SM) (i:Int):runS (createS M) i=runS M i:=by
 by_cases h:i=(M.runs.length:Int)
 ·subst h
  rw [runS_some (by rw [has_create,if_pos rfl]),runS_none (by rw [has_nat,decide_eq_false (by omega)];rfl)]
  show ((M.runs++[([],true)]).getD M.runs.length ([],false)).1=[];rw [getDR_app]
 ·have e:=has_create M i
  rw [if_neg h] at e
  cases hh:hasS M i with
  | false => rw [runS_none hh,runS_none (by rw [e,hh])]
  | true =>
    obtain ⟨k,rfl,hk,_⟩:=has_iff.1 hh;rw [runS_some hh,runS_some (by rw [e,hh])]
    show ((M.runs++[([],true)]).getD k ([],false)).1=_;rw [getDR_left _ _ hk]
theorem used_create (M:SM):usedS (createS M)=usedS M:=by
 show usedR (M.runs++[([],true)])=usedR M.runs;rw [usedR_append];rfl
theorem has_set {M M':SM} {k:Nat} (hk:k < M.runs.length) {x:List UInt8 × Bool} (hM:M'.runs=M.runs.set k x) (i:Int):hasS M' i=if i=(k:Int) then x.2 else hasS M i:=by
 by_cases h0:i < 0
 ·rw [has_neg _ h0,has_neg _ h0,if_neg (by omega)]
 obtain ⟨j,rfl⟩:∃ j:Nat,i=(j:Int):=⟨i.toNat,by omega⟩
 rw [has_nat,has_nat,hM,List.length_set,getDR_set _ _ hk]
 by_cases h:j=k
 ·subst h
  rw [if_pos rfl,if_pos rfl,decide_eq_true hk];rfl
 ·rw [if_neg h,if_neg (by omega)]
theorem run_set {M M':SM} {k:Nat} (hk:k < M.runs.length) {x:List UInt8 × Bool} (hM:M'.runs=M.runs.set k x) {i:Int} (hi:i≠(k:Int)):runS M' i=runS M i:=by
 have e:=has_set hk hM i;rw [if_neg hi] at e
 cases hh:hasS M i with
 | false => rw [runS_none hh,runS_none (by rw [e,hh])]
 | true =>
   obtain ⟨j,rfl,hj,_⟩:=has_iff.1 hh;rw [runS_some hh,runS_some (by rw [e,hh]),hM,getDR_set _ _ hk,if_neg (by omega)]
theorem has_put {M:SM} {id:Int} (h:hasS M id=true) (b:List UInt8) (i:Int):hasS (putS14 M id b) i=hasS M i:=by
 obtain ⟨k,rfl,hk,_⟩:=has_iff.1 h;rw [has_set hk (x:=((M.runs.getD k ([],false)).1++b,true)) rfl i]
 by_cases hi:i=(k:Int)
 ·rw [if_pos hi,hi,h]
 ·rw [if_neg hi]
theorem run_put {M:SM} {id:Int} (h:hasS M id=true) (b:List UInt8) (i:Int):runS (putS14 M id b) i=if i=id then runS M id++b else runS M i:=by
 obtain ⟨k,rfl,hk,_⟩:=has_iff.1 h
 by_cases hi:i=(k:Int)
 ·subst hi
  rw [if_pos rfl,runS_some (by rw [has_put h,h]),runS_some h]
  show ((M.runs.set k ((M.runs.getD k ([],false)).1++b,true)).getD k ([],false)).1=_;rw [getDR_set _ _ hk,if_pos rfl]
 ·rw [if_neg hi]
  exact run_set hk (x:=((M.runs.getD k ([],false)).1++b,true)) rfl hi
theorem used_put {M:SM} {id:Int} (h:hasS M id=true) (b:List UInt8):usedS (putS14 M id b)=usedS M+b.length:=by
 obtain ⟨k,rfl,hk,ht⟩:=has_iff.1 h;have:=usedR_set hk ((M.runs.getD k ([],false)).1++b,true);rw [if_pos ht,if_pos rfl,List.length_append] at this;show usedR (M.runs.set k ((M.runs.getD k ([],false)).1++b,true))=usedR M.runs+b.length;omega
theorem peak_put {M:SM} {id:Int} (h:hasS M id=true) (b:List UInt8):(putS14 M id b).peak=max M.peak (usedS M+b.length):=by
 rw [← used_put h];rfl
def dropM (M:SM) (id:Int):SM:={ M with runs:=M.runs.set id.toNat ((M.runs.getD id.toNat ([],false)).1,false) }
theorem dropS_yes {M:SM} {id:Int} (h:hasS M id=true):dropS M id=(0,dropM M id):=by
 unfold dropS;rw [if_neg (by rw [h];decide)]
 rfl
theorem has_drop {M:SM} {id:Int} (h:hasS M id=true) (i:Int):hasS (dropM M id) i=if i=id then false else hasS M i:=by
 obtain ⟨k,rfl,hk,_⟩:=has_iff.1 h;exact has_set hk (x:=((M.runs.getD k ([],false)).1,false)) rfl i
theorem run_drop {M:SM} {id:Int} (h:hasS M id=true) {i:Int} (hi:i≠id):runS (dropM M id) i=runS M i:=by
 obtain ⟨k,rfl,hk,_⟩:=has_iff.1 h;exact run_set hk (x:=((M.runs.getD k ([],false)).1,false)) rfl hi
theorem used_drop {M:SM} {id:Int} (h:hasS M id=true):usedS (dropM M id)+(runS M id).length=usedS M:=by
 obtain ⟨k,rfl,hk,ht⟩:=has_iff.1 h;rw [runS_some h];have:=usedR_set hk ((M.runs.getD k ([],false)).1,false);rw [if_pos ht,if_neg (show ¬ (false=true) by decide)] at this
 exact this
end Go.Proofs.Ytfpoipamioaklaa.Sto
end
