/- Texts of this seat, merged: what the proof reaches. -/
import Derived.Test.YtphehianajckaaaRows
import Derived.WalkKit
import Derived.ProofKit
import Derived.Lib.Hide
import Derived.IntWalk
import Derived.WalkSmall
import Derived.Outline
import Derived.Deep.QuietTactic
import Derived.BigQuiet
import Derived.Laws.BytesArg
import Derived.Laws.OwnMore
import Derived.OwnWalk
import Derived.Deep.Draws
import Derived.Lib.Bytes
import Derived.Lib.IndexLaws
import Derived.Lib.Strings
import Derived.Laws.Strings3
import Derived.MapKept
import Derived.Laws.StructEq
import Derived.Test.YtphehianajckaaaHeapPlaysX1
namespace Go.Proofs.Ytphehianajckaaa
namespace Base
end Base
namespace Byt
end Byt
namespace Hp
end Hp
namespace Txt
end Txt
end Go.Proofs.Ytphehianajckaaa
section
namespace Go.Proofs.Ytphehianajckaaa.Base
open Go.RowKit Go.ChangeShapes Go.WideShapes
theorem own:ownKnob Try.prog.godebug=none:=by kernel_rfl
theorem laidOut:laidOutB Try.prog=true:=by kernel_rfl
def IsRow (k:IntKind) (w:World) (a:Option Addr) (len cap:Nat) (zs:List Int):Prop:=
 (a=none∧len=0∧cap=0∧zs=[]) ∨
 ∃ x,a=some x∧len≤cap∧cap≤maxLen∧zs.length=cap∧(∀ i,i < zs.length → w.cell? (x.add i)=some (.int k (zs.getD i 0))) ∧ ∀ n ∈ zs,(Lit.int k n).wf=true
theorem row_at {k:IntKind} {w:World} {a:Option Addr} {len cap:Nat} {zs:List Int} (h:IsRow k w a len cap zs) (hl:0 < len) :
 ∃ b off,a=some ⟨b,off,none⟩∧len≤cap∧cap≤maxLen∧zs.length=cap∧b < w.heap.size∧(∀ i,i < len → w.cell? ⟨b,off+i,none⟩=some (.int k ((zs.take len).getD i 0)))∧(zs.take len).length=len:=by
 rcases h with ⟨_,h,_,_⟩ | ⟨x,rfl,h1,h2,h3,h4,_⟩
 ·omega
 ·obtain ⟨b,off,spot⟩:=x
  have hspot:spot=none:=by simpa [Addr.add] using World.cell?_spot (h4 0 (by omega))
  subst hspot;refine ⟨b,off,rfl,h1,h2,h3,?_,?_,?_⟩
  ·exact World.block_lt_of_cell? w _ (by simpa [Addr.add] using h4 0 (by omega))
  ·intro i hi
   rw [← WideShapes.add_plain,h4 i (by omega)]
   simp [List.getD,hi]
  ·rw [List.length_take];omega
end Go.Proofs.Ytphehianajckaaa.Base
end
section
namespace Go.Proofs.Ytphehianajckaaa.Byt
open Go.ChangeShapes Go.WideShapes Go.ChangeAt Go.RowKit Base Go.Lib
set_option linter.unusedVariables false
def BAt (w:World) (p:Option Addr) (n:Nat) (bs:List UInt8):Prop:=
 0 < n → ∃ b o,p=some ⟨b,o,none⟩ ∧ ∀ i,i < n → w.cell? ⟨b,o+i,none⟩=some (.int .u8 (bs.getD i 0).toNat)
section
variable {w w':World} {p:Option Addr} {n:Nat} {bs:List UInt8}
theorem BAt.cell (h:BAt w p n bs) {k:Nat} (hk:k < n) :
 ∃ b o,p=some ⟨b,o,none⟩∧b < w.heap.size ∧ ∀ i,i < n → w.cell? ⟨b,o+i,none⟩=some (.int .u8 (bs.getD i 0).toNat):=by
 obtain ⟨b,o,rfl,hc⟩:=h (by omega)
 exact ⟨b,o,rfl,World.block_lt_of_cell? _ _ (hc k hk),hc⟩
theorem BAt.below (h:BAt w p n bs) (hb:Below w.heap.size w w'):BAt w' p n bs:=fun hn => by
 obtain ⟨b,o,rfl,hbw,hc⟩:=h.cell hn;exact ⟨b,o,rfl,fun i hi => by rw [hb.cell (p:=⟨b,o+i,none⟩) hbw];exact hc i hi⟩
theorem BAt.none_ (w:World) (p:Option Addr):BAt w p 0 []:=fun h => absurd h (by omega)
theorem BAt.alloc (h:BAt w p n bs) (o:Obj):BAt (w.alloc o) p n bs:=h.below ((Below.refl _ _).alloc (Nat.le_refl _) o)
theorem BAt.drop (h:BAt w p n bs) {k c:Nat} (hk:k≤n) (hc:n≤c) (hl:bs.length=n):BAt w (if c=k then p else p.map (·.add k)) (n - k) (bs.drop k):=fun hn => by
 obtain ⟨b,o,rfl,hcell⟩:=h (by omega)
 rw [if_neg (by omega)]
 refine ⟨b,o+k,by simp [WideShapes.add_plain],fun i hi => ?_⟩
 rw [Nat.add_assoc,hcell (k+i) (by omega)]
 simp [List.getD]
theorem BAt.take (h:BAt w p n bs) {k:Nat} (hk:k≤n):BAt w p k (bs.take k):=fun hn => by
 obtain ⟨b,o,rfl,hc⟩:=h (by omega)
 exact ⟨b,o,rfl,fun i hi => by rw [hc i (by omega)];simp [List.getD,hi]⟩
end
theorem bytesOf_getD (xs:List Int) (i:Nat) (h:i < xs.length) (hx:∀ x ∈ xs,0≤x∧x < 256):(((bytesOf xs).getD i 0).toNat:Int)=xs.getD i 0:=by
 have hm:=hx xs[i] (List.getElem_mem h);have e:(bytesOf xs).getD i 0=UInt8.ofNat (xs[i]).toNat:=by simp [bytesOf,List.getD,h]
 rw [e,UInt8.toNat_ofNat'];simp [List.getD,h];omega
theorem wf8 {n:Int} (h:(Lit.int .u8 n).wf=true):0≤n∧n < 256:=by
 have h1:IntKind.u8.min=0:=rfl;have h2:IntKind.u8.max=255:=rfl;simp only [Lit.wf,Bool.and_eq_true,decide_eq_true_eq] at h;omega
theorem bat_of_ints {w:World} {p:Option Addr} {n:Nat} {xs:List Int} (hn:xs.length=n) (hx:∀ x ∈ xs,0≤x∧x < 256)
 (h:0 < n → ∃ b o,p=some ⟨b,o,none⟩ ∧ ∀ i,i < n → w.cell? ⟨b,o+i,none⟩=some (.int .u8 (xs.getD i 0))):BAt w p n (bytesOf xs):=fun h0 => by
 obtain ⟨b,o,rfl,hc⟩:=h h0;exact ⟨b,o,rfl,fun i hi => by rw [hc i hi,bytesOf_getD xs i (by omega) hx]⟩
theorem bat_of_row {w:World} {a:Option Addr} {len cap:Nat} {zs:List Int} (h:IsRow .u8 w a len cap zs):BAt w a len (bytesOf (zs.take len))∧(bytesOf (zs.take len)).length=len∧len≤cap∧cap≤maxLen:=by
 have hb:∀ x ∈ zs.take len,0≤x∧x < 256:=fun x hx => by
  rcases h with ⟨_,_,_,rfl⟩ | ⟨_,_,_,_,_,_,h⟩
  ·simp at hx
  ·exact wf8 (h x (List.mem_of_mem_take hx))
 have hl:(zs.take len).length=len∧len≤cap∧cap≤maxLen:=by
  rcases h with ⟨_,rfl,rfl,rfl⟩ | ⟨_,_,h1,h2,h3,_,_⟩
  ·exact ⟨rfl,by omega,by omega⟩
  ·exact ⟨by rw [List.length_take];omega,h1,h2⟩
 refine ⟨bat_of_ints hl.1 hb fun h0 => ?_,by rw [bytesOf_length];exact hl.1,hl.2.1,hl.2.2⟩
 obtain ⟨b,off,rfl,_,_,_,_,h5,_⟩:=row_at h h0;exact ⟨b,off,rfl,h5⟩
theorem bytesOf_str (bs:List UInt8):strOfNums (bs.map fun x => (x.toNat:Int))=⟨bs.toArray⟩:=by
 apply ByteArray.ext;apply Array.toList_inj.1;rw [strOfNums_data,List.map_map];show _=bs
 conv => rhs;rw [← List.map_id bs]
 apply List.map_congr_left;intro x _;simp
theorem conv_at {P:Program} {w:World} {p:Option Addr} {n:Nat} {bs:List UInt8} (h:BAt w p n bs) (hn:bs.length=n) (src e dst:TypeId) (hs:P.underlying src=some (.slice e)) (he:P.underlying e=some (.int .u8)) (hd:P.underlying dst=some .string) (c:Nat) :
 (convert src dst (.slice p n c)).run P w=.ok (.string ⟨bs.toArray⟩) w:=by
 by_cases h0:0 < n
 ·obtain ⟨b,o,rfl,hc⟩:=h h0
  rw [run_convert_bytes_arg w src e hs he b o n c (bs.map fun x => (x.toNat:Int)) (by simpa using hn) (fun i hi => by
   rw [hc i hi];simp [List.getD,List.getElem?_eq_getElem (show i < bs.length by omega)]) dst hd,bytesOf_str]
 ·obtain rfl:n=0:=by omega
  obtain rfl:bs=[]:=List.eq_nil_of_length_eq_zero hn;rcases p with _ | a
  ·rw [run_convert_bytes_nil w src e hs he 0 c dst hd];rfl
  ·have hl:(loadCells a 0).run P w=.ok (([]:List Int).map (Value.int .u8)).toArray w:=by
    have:=run_loadCells_list (P:=P) w a [] (fun j v hj => by simp at hj)
    simpa using this
   rw [run_convert_bytes_string w src dst e _ 0 c hs he hd,run_bytesToString w a 0 c [] hl];rfl
theorem bat_of_own {w:World} {base:Nat} {e:TypeId} {v:Value} {n:Nat} {xs:List Int} (h:w.ownsRow base e 1 v n (xs.map (Value.int .u8))) (hx:∀ x ∈ xs,0≤x∧x < 256) :
 ∃ p c,v=.slice p n c∧n≤c∧c≤maxLen∧BAt w p n (bytesOf xs)∧(bytesOf xs).length=n:=by
 have hl:xs.length=n:=by have:=h.1;simpa using this
 have hl':(bytesOf xs).length=n:=by rw [bytesOf_length];exact hl
 rcases h.2 with ⟨rfl,rfl⟩ | ⟨g,cap,cur,rfl,_,_,h1,h2,_⟩
 ·exact ⟨none,0,rfl,by omega,by omega,fun h => absurd h (by omega),hl'⟩
 ·refine ⟨some ⟨g,0,none⟩,cap,rfl,h1,h2,bat_of_ints hl hx fun h0 => ⟨g,0,rfl,fun i hi => ?_⟩,hl'⟩
  rw [Nat.zero_add,h.cellAt i (by omega),List.getElem?_map,List.getElem?_eq_getElem (by omega)]
  simp [List.getD,hl,hi]
end Go.Proofs.Ytphehianajckaaa.Byt
end
section
namespace Go.Proofs.Ytphehianajckaaa.Txt
open Go.ChangeShapes Go.WideShapes Go.ChangeAt Go.RowKit Base Byt Go.Lib
set_option linter.unusedVariables false
def str (l:List UInt8):ByteArray:=⟨l.toArray⟩
theorem str_data (l:List UInt8):(str l).data.toList=l:=by simp [str]
theorem str_of (s:ByteArray):str s.data.toList=s:=by
 apply ByteArray.ext;simp [str]
theorem str_toList (l:List UInt8):(str l).toList=l:=by rw [Lib.toList_data,str_data]
end Go.Proofs.Ytphehianajckaaa.Txt
end
section
namespace Go.Proofs.Ytphehianajckaaa.Hp
structure HeadV where
 name:List UInt8
 link:List UInt8
 kind:UInt8
 mode:Int
 uid:Int
 gid:Int
 time:Int
 size:Int
 gnu:Bool
def numH (h:HeadV):Nat → Int
 | 1 => h.mode | 2 => h.uid | 3 => h.gid | 4 => h.size | 5 => h.time | _ => 0
deriving instance DecidableEq for HeadV
end Go.Proofs.Ytphehianajckaaa.Hp
namespace Go.Proofs.Ytphehianajckaaa.Head
open Go.ChangeShapes Go.WideShapes Go.ChangeAt Go.RowKit Base Byt Txt Hp Go.Lib
set_option linter.unusedVariables false
set_option maxRecDepth 100000
end Go.Proofs.Ytphehianajckaaa.Head
end
section
namespace Go.Proofs.Ytphehianajckaaa.Rec
open Go.ChangeShapes Go.WideShapes Go.ChangeAt Go.RowKit Base
set_option linter.unusedVariables false
theorem row_below {w w':World} {B:Nat} {e:TypeId} {k:Nat} {v:Value} {n:Nat} {xs:List Value} (h:w.ownsRow B e k v n xs) (hb:Below w.heap.size w w'):w'.ownsRow B e k v n xs:=by
 refine ⟨h.1,?_⟩;rcases h.2 with h2 | ⟨g,cap,cur,rfl,h3,h4,h5⟩
 ·exact .inl h2
 ·exact .inr ⟨g,cap,cur,rfl,h3,by rw [hb.block g (Array.getElem?_eq_some_iff.1 h4).1];exact h4,h5⟩
end Go.Proofs.Ytphehianajckaaa.Rec
end
