/- Texts of this seat, merged: what the proof reaches. -/
import Derived.Test.YtfhelebejclalaaDoorRows
import Derived.WalkKit
import Derived.ProofKit
import Derived.Lib.Hide
import Derived.IntWalk
import Derived.WalkSmall
import Derived.Outline
import Derived.Deep.QuietTactic
import Derived.BigQuiet
import Derived.Laws.BytesArg
import Derived.Laws.OwnMore
import Derived.OwnWalk
import Derived.Deep.Draws
import Derived.Lib.Bytes
import Derived.Lib.IndexLaws
import Derived.Lib.Strings
import Derived.Laws.Strings3
import Derived.MapKept
import Derived.Laws.StructEq
import Derived.Test.YtfhelebejclalaaDoorLinksBackX1
namespace Go.Proofs.YtfhelebejclalaaDoor
namespace Base
end Base
namespace Byt
end Byt
namespace Hp
end Hp
namespace Txt
end Txt
end Go.Proofs.YtfhelebejclalaaDoor
section
namespace Go.Proofs.YtfhelebejclalaaDoor.Base
open Go.RowKit Go.ChangeShapes Go.WideShapes
theorem own:ownKnob Tryd.prog.godebug=none:=by kernel_rfl
theorem laidOut:laidOutB Tryd.prog=true:=by kernel_rfl
def IsRow (k:IntKind) (w:World) (a:Option Addr) (len cap:Nat) (zs:List Int):Prop:=
 (a=none∧len=0∧cap=0∧zs=[]) ∨
 ∃ x,a=some x∧len≤cap∧cap≤maxLen∧zs.length=cap∧(∀ i,i < zs.length → w.cell? (x.add i)=some (.int k (zs.getD i 0))) ∧ ∀ n ∈ zs,(Lit.int k n).wf=true
theorem row_at {k:IntKind} {w:World} {a:Option Addr} {len cap:Nat} {zs:List Int} (h:IsRow k w a len cap zs) (hl:0 < len) :
 ∃ b off,a=some ⟨b,off,none⟩∧len≤cap∧cap≤maxLen∧zs.length=cap∧b < w.heap.size∧(∀ i,i < len → w.cell? ⟨b,off+i,none⟩=some (.int k ((zs.take len).getD i 0)))∧(zs.take len).length=len:=by
 rcases h with ⟨_,h,_,_⟩ | ⟨x,rfl,h1,h2,h3,h4,_⟩
 ·omega
 ·obtain ⟨b,off,spot⟩:=x
  have hspot:spot=none:=by simpa [Addr.add] using World.cell?_spot (h4 0 (by omega))
  subst hspot;refine ⟨b,off,rfl,h1,h2,h3,?_,?_,?_⟩
  ·exact World.block_lt_of_cell? w _ (by simpa [Addr.add] using h4 0 (by omega))
  ·intro i hi
   rw [← WideShapes.add_plain,h4 i (by omega)]
   simp [List.getD,hi]
  ·rw [List.length_take];omega
end Go.Proofs.YtfhelebejclalaaDoor.Base
end
section
namespace Go.Proofs.YtfhelebejclalaaDoor.Byt
open Go.ChangeShapes Go.WideShapes Go.ChangeAt Go.RowKit Base Go.Lib
set_option linter.unusedVariables false
def BAt (w:World) (p:Option Addr) (n:Nat) (bs:List UInt8):Prop:=
 0 < n → ∃ b o,p=some ⟨b,o,none⟩ ∧ ∀ i,i < n → w.cell? ⟨b,o+i,none⟩=some (.int .u8 (bs.getD i 0).toNat)
section
variable {w w':World} {p:Option Addr} {n:Nat} {bs:List UInt8}
theorem BAt.cell (h:BAt w p n bs) {k:Nat} (hk:k < n) :
 ∃ b o,p=some ⟨b,o,none⟩∧b < w.heap.size ∧ ∀ i,i < n → w.cell? ⟨b,o+i,none⟩=some (.int .u8 (bs.getD i 0).toNat):=by
 obtain ⟨b,o,rfl,hc⟩:=h (by omega)
 exact ⟨b,o,rfl,World.block_lt_of_cell? _ _ (hc k hk),hc⟩
theorem BAt.below (h:BAt w p n bs) (hb:Below w.heap.size w w'):BAt w' p n bs:=fun hn => by
 obtain ⟨b,o,rfl,hbw,hc⟩:=h.cell hn;exact ⟨b,o,rfl,fun i hi => by rw [hb.cell (p:=⟨b,o+i,none⟩) hbw];exact hc i hi⟩
theorem BAt.none_ (w:World) (p:Option Addr):BAt w p 0 []:=fun h => absurd h (by omega)
theorem BAt.alloc (h:BAt w p n bs) (o:Obj):BAt (w.alloc o) p n bs:=h.below ((Below.refl _ _).alloc (Nat.le_refl _) o)
theorem BAt.drop (h:BAt w p n bs) {k c:Nat} (hk:k≤n) (hc:n≤c) (hl:bs.length=n):BAt w (if c=k then p else p.map (·.add k)) (n - k) (bs.drop k):=fun hn => by
 obtain ⟨b,o,rfl,hcell⟩:=h (by omega)
 rw [if_neg (by omega)]
 refine ⟨b,o+k,by simp [WideShapes.add_plain],fun i hi => ?_⟩
 rw [Nat.add_assoc,hcell (k+i) (by omega)]
 simp [List.getD]
theorem BAt.take (h:BAt w p n bs) {k:Nat} (hk:k≤n):BAt w p k (bs.take k):=fun hn => by
 obtain ⟨b,o,rfl,hc⟩:=h (by omega)
 exact ⟨b,o,rfl,fun i hi => by rw [hc i (by omega)];simp [List.getD,hi]⟩
end
theorem bytesOf_getD (xs:List Int) (i:Nat) (h:i < xs.length) (hx:∀ x ∈ xs,0≤x∧x < 256):(((bytesOf xs).getD i 0).toNat:Int)=xs.getD i 0:=by
 have hm:=hx xs[i] (List.getElem_mem h);have e:(bytesOf xs).getD i 0=UInt8.ofNat (xs[i]).toNat:=by simp [bytesOf,List.getD,h]
 rw [e,UInt8.toNat_ofNat'];simp [List.getD,h];omega
theorem wf8 {n:Int} (h:(Lit.int .u8 n).wf=true):0≤n∧n < 256:=by
 have h1:IntKind.u8.min=0:=rfl;have h2:IntKind.u8.max=255:=rfl;simp only [Lit.wf,Bool.and_eq_true,decide_eq_true_eq] at h;omega
theorem bat_of_ints {w:World} {p:Option Addr} {n:Nat} {xs:List Int} (hn:xs.length=n) (hx:∀ x ∈ xs,0≤x∧x < 256)
 (h:0 < n → ∃ b o,p=some ⟨b,o,none⟩ ∧ ∀ i,i < n → w.cell? ⟨b,o+i,none⟩=some (.int .u8 (xs.getD i 0))):BAt w p n (bytesOf xs):=fun h0 => by
 obtain ⟨b,o,rfl,hc⟩:=h h0;exact ⟨b,o,rfl,fun i hi => by rw [hc i hi,bytesOf_getD xs i (by omega) hx]⟩
theorem bat_of_row {w:World} {a:Option Addr} {len cap:Nat} {zs:List Int} (h:IsRow .u8 w a len cap zs):BAt w a len (bytesOf (zs.take len))∧(bytesOf (zs.take len)).length=len∧len≤cap∧cap≤maxLen:=by
 have hb:∀ x ∈ zs.take len,0≤x∧x < 256:=fun x hx => by
  rcases h with ⟨_,_,_,rfl⟩ | ⟨_,_,_,_,_,_,h⟩
  ·simp at hx
  ·exact wf8 (h x (List.mem_of_mem_take hx))
 have hl:(zs.take len).length=len∧len≤cap∧cap≤maxLen:=by
  rcases h with ⟨_,rfl,rfl,rfl⟩ | ⟨_,_,h1,h2,h3,_,_⟩
  ·exact ⟨rfl,by omega,by omega⟩
  ·exact ⟨by rw [List.length_take];omega,h1,h2⟩
 refine ⟨bat_of_ints hl.1 hb fun h0 => ?_,by rw [bytesOf_length];exact hl.1,hl.2.1,hl.2.2⟩
 obtain ⟨b,off,rfl,_,_,_,_,h5,_⟩:=row_at h h0;exact ⟨b,off,rfl,h5⟩
theorem bytesOf_str (bs:List UInt8):strOfNums (bs.map fun x => (x.toNat:Int))=⟨bs.toArray⟩:=by
 apply ByteArray.ext;apply Array.toList_inj.1;rw [strOfNums_data,List.map_map];show _=bs
 conv => rhs;rw [← List.map_id bs]
 apply List.map_congr_left;intro x _;simp
theorem conv_at {P:Program} {w:World} {p:Option Addr} {n:Nat} {bs:List UInt8} (h:BAt w p n bs) (hn:bs.length=n) (src e dst:TypeId) (hs:P.underlying src=some (.slice e)) (he:P.underlying e=some (.int .u8)) (hd:P.underlying dst=some .string) (c:Nat) :
 (convert src dst (.slice p n c)).run P w=.ok (.string ⟨bs.toArray⟩) w:=by
 by_cases h0:0 < n
 ·obtain ⟨b,o,rfl,hc⟩:=h h0
  rw [run_convert_bytes_arg w src e hs he b o n c (bs.map fun x => (x.toNat:Int)) (by simpa using hn) (fun i hi => by
   rw [hc i hi];simp [List.getD,List.getElem?_eq_getElem (show i < bs.length by omega)]) dst hd,bytesOf_str]
 ·obtain rfl:n=0:=by omega
  obtain rfl:bs=[]:=List.eq_nil_of_length_eq_zero hn;rcases p with _ | a
  ·rw [run_convert_bytes_nil w src e hs he 0 c dst hd];rfl
  ·have hl:(loadCells a 0).run P w=.ok (([]:List Int).map (Value.int .u8)).toArray w:=by
    have:=run_loadCells_list (P:=P) w a [] (fun j v hj => by simp at hj)
    simpa using this
   rw [run_convert_bytes_string w src dst e _ 0 c hs he hd,run_bytesToString w a 0 c [] hl];rfl
theorem bat_of_own {w:World} {base:Nat} {e:TypeId} {v:Value} {n:Nat} {xs:List Int} (h:w.ownsRow base e 1 v n (xs.map (Value.int .u8))) (hx:∀ x ∈ xs,0≤x∧x < 256) :
 ∃ p c,v=.slice p n c∧n≤c∧c≤maxLen∧BAt w p n (bytesOf xs)∧(bytesOf xs).length=n:=by
 have hl:xs.length=n:=by have:=h.1;simpa using this
 have hl':(bytesOf xs).length=n:=by rw [bytesOf_length];exact hl
 rcases h.2 with ⟨rfl,rfl⟩ | ⟨g,cap,cur,rfl,_,_,h1,h2,_⟩
 ·exact ⟨none,0,rfl,by omega,by omega,fun h => absurd h (by omega),hl'⟩
 ·refine ⟨some ⟨g,0,none⟩,cap,rfl,h1,h2,bat_of_ints hl hx fun h0 => ⟨g,0,rfl,fun i hi => ?_⟩,hl'⟩
  rw [Nat.zero_add,h.cellAt i (by omega),List.getElem?_map,List.getElem?_eq_getElem (by omega)]
  simp [List.getD,hl,hi]
end Go.Proofs.YtfhelebejclalaaDoor.Byt
end
section
namespace Go.Proofs.YtfhelebejclalaaDoor.Txt
open Go.ChangeShapes Go.WideShapes Go.ChangeAt Go.RowKit Base Byt Go.Lib
set_option linter.unusedVariables false
def str (l:List UInt8):ByteArray:=⟨l.toArray⟩
theorem str_data (l:List UInt8):(str l).data.toList=l:=by simp [str]
theorem str_of (s:ByteArray):str s.data.toList=s:=by
 apply ByteArray.ext;simp [str]
theorem str_size (l:List UInt8):(str l).size=l.length:=by simp [str,ByteArray.size]
theorem str_app (a b:List UInt8):str a++str b=str (a++b):=by
 apply ByteArray.ext;simp [str,ByteArray.data_append]
theorem str_inj {a b:List UInt8} (h:str a=str b):a=b:=by
 have:=congrArg (fun s:ByteArray => s.data.toList) h
 simpa [str_data] using this
theorem size_of (s:ByteArray):s.size=s.data.toList.length:=Lib.size_eq s
theorem str_toList (l:List UInt8):(str l).toList=l:=by rw [Lib.toList_data,str_data]
theorem str_beq (a b:List UInt8):(str a == str b)=decide (a=b):=by
 by_cases h:a=b
 ·subst h
  simpa using (MapKept.bytes_beq (str a) (str a)).2 rfl
 ·cases hc:str a == str b with
  | true => exact absurd (str_inj ((MapKept.bytes_beq _ _).1 hc)) h
  | false => simpa using h
theorem str_empty (l:List UInt8):(str l).toList.isEmpty=decide (l=[]):=by
 rw [str_toList]
 cases l<;>simp
theorem str_is (l c:List UInt8):((str l).toList == c)=decide (l=c):=by
 rw [str_toList]
 by_cases h:l=c
 ·subst h;simp
 ·simp [h]
theorem str_take (l:List UInt8) (k:Nat):(str l).extract 0 k=str (l.take k):=by
 apply ByteArray.ext;simp [str,ByteArray.data_extract]
theorem str_drop (l:List UInt8) (k n:Nat) (h:n=l.length):(str l).extract k n=str (l.drop k):=by
 subst h;apply ByteArray.ext;simp [str,ByteArray.data_extract,List.take_of_length_le]
theorem index_has (l:List UInt8) (c:UInt8):decide (0≤Lib.indexByte l c)=l.contains c:=by
 induction l with
 | nil => simp [Lib.indexByte]
 | cons b l ih =>
   have hge:=Lib.indexByte_ge l c
   by_cases hb:b=c
   ·subst hb
    simp [Lib.indexByte]
   ·have hbb:(b == c)=false:=by simpa using hb
    by_cases hi:Lib.indexByte l c = -1
    ·have e:Lib.indexByte (b :: l) c = -1:=by simp [Lib.indexByte,hbb,hi]
     rw [hi] at ih;rw [e,List.contains_cons,← ih]
     simpa using fun h => hb h.symm
    ·have hi':(Lib.indexByte l c == -1)=false:=by simpa using hi
     have e:Lib.indexByte (b :: l) c=Lib.indexByte l c+1:=by simp [Lib.indexByte,hbb,hi']
     rw [List.contains_cons,← ih,e,decide_eq_true (by omega),decide_eq_true (by omega),Bool.or_true]
end Go.Proofs.YtfhelebejclalaaDoor.Txt
end
section
namespace Go.Proofs.YtfhelebejclalaaDoor.Hp
structure HeadV where
 name:List UInt8
 link:List UInt8
 kind:UInt8
 mode:Int
 uid:Int
 gid:Int
 time:Int
 size:Int
 gnu:Bool
end Go.Proofs.YtfhelebejclalaaDoor.Hp
namespace Go.Proofs.YtfhelebejclalaaDoor.Head
open Go.ChangeShapes Go.WideShapes Go.ChangeAt Go.RowKit Base Byt Txt Hp Go.Lib
set_option linter.unusedVariables false
set_option maxRecDepth 100000
def headC (h:HeadV):Array Value:=#[.string (str h.name),.string (str h.link),.int .u8 (h.kind.toNat:Int),.int .i64 h.mode,.int .i64 h.uid,.int .i64 h.gid,.int .i64 h.time,.int .i64 h.size,.bool h.gnu]
end Go.Proofs.YtfhelebejclalaaDoor.Head
end
section
namespace Go.Proofs.YtfhelebejclalaaDoor.Path
open Go.ChangeShapes Go.WideShapes Go.ChangeAt Go.RowKit Base Byt Txt Go.Lib
set_option linter.unusedVariables false
set_option maxRecDepth 100000
theorem at_drop (s:ByteArray) (k m:Nat) (h:k+m < s.size):at_ (s.data.toList.drop k) m=(s[k+m]).toNat:=by
 unfold at_;have h':k+m < s.data.toList.length:=by rw [← size_of];exact h
 simp only [List.getD,List.getElem?_drop];rw [List.getElem?_eq_getElem h'];rfl
theorem text_no (l:List UInt8) (hl:l≠[]) (h:¬ headOk l):textD l=false:=by rw [textD_step l hl,if_neg h]
theorem text_yes (l:List UInt8) (hl:l≠[]) (h:headOk l):textD l=textD (l.drop (wideC (at_ l 0))):=by rw [textD_step l hl,if_pos h]
set_option maxHeartbeats 4000000 in
theorem rtext_any (s:ByteArray) (w:World) (hm:s.size≤140737488351232) :
 Calls Tryd.prog 45 #[.string s] w fun e w' => e=.returned (.bool (textD s.data.toList))∧w=w':=by
 obtain ⟨ANS,hA⟩:∃ ANS,textD s.data.toList=ANS:=⟨_,rfl⟩;rw [hA];have HA:=Lib.hid hA;clear hA
 go_enter Tryd.func45,Tryd.ntmps45
 go_wp2
 go_loop [3] (fun i => ∃ (k:Nat),k≤s.size∧i=.int .i64 k∧Hid (textD (s.data.toList.drop k)=ANS)) (fun i => s.size - (RowKit.intOf i).toNat)
 case atStart => exact ⟨0,Nat.zero_le _,rfl,Lib.hid HA.out⟩
 case round =>
  obtain ⟨k,hk,rfl,hr⟩:=hrel
  by_cases hlt:k < s.size
  ·have HL:Hid ((s.data.toList.drop k).length=s.size - k):=Lib.hid (by rw [List.length_drop,← size_of])
   have HNE:Hid (s.data.toList.drop k≠[]):=Lib.hid (fun e => by have:=HL.out;rw [e] at this;simp at this;omega)
   obtain ⟨C,hC⟩:∃ C:Nat,(s[k]).toNat=C:=⟨_,rfl⟩;have hC2:((s[k]).toNat:Int)=(C:Int):=by rw [hC]
   have hC3:(C:Int)≤255:=by have:=(s[k]).toNat_lt;omega
   have H0:Hid (at_ (s.data.toList.drop k) 0=C):=Lib.hid (by rw [at_drop s k 0 (by omega)];exact hC)
   have HNO:Hid (¬ headOk (s.data.toList.drop k) → ANS=false):=Lib.hid (fun h => by rw [← hr.out];exact text_no _ HNE.out h)
   have HYES:Hid (∀ N,wideC C=N → headOk (s.data.toList.drop k) → textD (s.data.toList.drop (k+N))=ANS):=Lib.hid (fun N hN h => by
    rw [← hr.out,text_yes _ HNE.out h,H0.out,hN,List.drop_drop])
   clear hC
   by_cases h0:(C:Int)=0
   ·obtain rfl:ANS=false:=HNO.out (fun h => h.1 (by rw [H0.out,show C=0 by omega];rfl))
    have hcb:((C:Int) == 0)=true:=by simpa using h0
    clear h0
    go_wp2
    go_ret
    exact ⟨rfl,rfl⟩
   ·have hcb:((C:Int) == 0)=false:=by simpa using h0
    by_cases h1:(C:Int) < 128
    ·have HW:Hid (wideC C=1):=Lib.hid (by unfold wideC;rw [if_neg (by omega),if_pos (by omega)])
     by_cases hN:k+1≤s.size
     ·have hN2:¬ ((s.size:Int) - (k:Int) < 1):=by omega
      go_wp2
      go_loop [6] (fun i => ∃ (j:Nat),1≤j∧j≤1∧i=.int .i64 j∧Hid (∀ m,0 < m → m < j → isCont (at_ (s.data.toList.drop k) m))) (fun i => 1 - (RowKit.intOf i).toNat)
      case atStart => exact ⟨1,by omega,by omega,rfl,Lib.hid (fun m h1 h2 => by omega)⟩
      case round =>
       obtain ⟨j,hj1,hj2,rfl,hct⟩:=hrel
       by_cases hj:j < 1
       ·omega
       ·obtain rfl:j=1:=by omega
        clear hj hj1 hj2;have HOK:Hid (headOk (s.data.toList.drop k)):=Lib.hid ⟨by rw [H0.out,HW.out];omega,by rw [H0.out,HW.out,HL.out];omega,fun m hm h0 => hct.out m h0 (by rw [H0.out,HW.out] at hm;omega),by rw [H0.out,HW.out];unfold isBad;omega⟩
        go_wp2
        go_round
        case rel => exact ⟨k+1,by omega,by go_num,Lib.hid (HYES.out 1 HW.out HOK.out)⟩
        case measure => simp [RowKit.intOf];omega
     ·have hN2:(s.size:Int) - (k:Int) < 1:=by omega
      obtain rfl:ANS=false:=HNO.out (fun h => by have h1:=h.2.1;rw [H0.out,HW.out,HL.out] at h1;omega)
      go_wp2
      go_ret
      exact ⟨rfl,rfl⟩
    ·by_cases h2:(194:Int)≤(C:Int)
     ·by_cases h3:(C:Int) < 224
      ·have HW:Hid (wideC C=2):=Lib.hid (by unfold wideC;rw [if_neg (by omega),if_neg (by omega),if_pos (by omega)])
       by_cases hN:k+2≤s.size
       ·have hN2:¬ ((s.size:Int) - (k:Int) < 2):=by omega
        go_wp2
        go_loop [6] (fun i => ∃ (j:Nat),1≤j∧j≤2∧i=.int .i64 j∧Hid (∀ m,0 < m → m < j → isCont (at_ (s.data.toList.drop k) m))) (fun i => 2 - (RowKit.intOf i).toNat)
        case atStart => exact ⟨1,by omega,by omega,rfl,Lib.hid (fun m h1 h2 => by omega)⟩
        case round =>
         obtain ⟨j,hj1,hj2,rfl,hct⟩:=hrel
         by_cases hj:j < 2
         ·have hkj:k+j < s.size:=by omega
          obtain ⟨D,hD⟩:∃ D:Nat,(s[k+j]).toNat=D:=⟨_,rfl⟩;have hD2:((s[k+j]).toNat:Int)=(D:Int):=by rw [hD]
          have HD:Hid (at_ (s.data.toList.drop k) j=D):=Lib.hid (by rw [at_drop s k j hkj];exact hD)
          have hD3:(D:Int)≤255:=by have:=(s[k+j]).toNat_lt;omega
          clear hD
          by_cases g1:(D:Int) < 128
          ·obtain rfl:ANS=false:=HNO.out (fun h => by have h1:=h.2.2.1 j (by rw [H0.out,HW.out];exact hj) (by omega);rw [HD.out] at h1;unfold isCont at h1;omega)
           go_wp2
           go_ret
           exact ⟨rfl,rfl⟩
          ·by_cases g2:(191:Int) < (D:Int)
           ·obtain rfl:ANS=false:=HNO.out (fun h => by have h1:=h.2.2.1 j (by rw [H0.out,HW.out];exact hj) (by omega);rw [HD.out] at h1;unfold isCont at h1;omega)
            go_wp2
            go_ret
            exact ⟨rfl,rfl⟩
           ·have HCT:Hid (∀ m,0 < m → m < j+1 → isCont (at_ (s.data.toList.drop k) m)):=Lib.hid (fun m h1 h2 => by
             rcases Nat.lt_succ_iff_lt_or_eq.1 h2 with h3 | rfl
             ·exact hct.out m h1 h3
             ·rw [HD.out];unfold isCont;omega)
            go_wp2
            go_round
            case rel => exact ⟨j+1,by omega,by omega,by go_num,HCT⟩
            case measure => simp [RowKit.intOf];omega
         ·obtain rfl:j=2:=by omega
          clear hj hj1 hj2;have HOK:Hid (headOk (s.data.toList.drop k)):=Lib.hid ⟨by rw [H0.out,HW.out];omega,by rw [H0.out,HW.out,HL.out];omega,fun m hm h0 => hct.out m h0 (by rw [H0.out,HW.out] at hm;omega),by rw [H0.out,HW.out];unfold isBad;omega⟩
          go_wp2
          go_round
          case rel => exact ⟨k+2,by omega,by go_num,Lib.hid (HYES.out 2 HW.out HOK.out)⟩
          case measure => simp [RowKit.intOf];omega
       ·have hN2:(s.size:Int) - (k:Int) < 2:=by omega
        obtain rfl:ANS=false:=HNO.out (fun h => by have h1:=h.2.1;rw [H0.out,HW.out,HL.out] at h1;omega)
        go_wp2
        go_ret
        exact ⟨rfl,rfl⟩
      ·have h4:(224:Int)≤(C:Int):=by omega
       by_cases h5:(C:Int) < 240
       ·have HW:Hid (wideC C=3):=Lib.hid (by unfold wideC;rw [if_neg (by omega),if_neg (by omega),if_neg (by omega),if_pos (by omega)])
        by_cases hN:k+3≤s.size
        ·have hN2:¬ ((s.size:Int) - (k:Int) < 3):=by omega
         go_wp2
         go_loop [6] (fun i => ∃ (j:Nat),1≤j∧j≤3∧i=.int .i64 j∧Hid (∀ m,0 < m → m < j → isCont (at_ (s.data.toList.drop k) m))) (fun i => 3 - (RowKit.intOf i).toNat)
         case atStart => exact ⟨1,by omega,by omega,rfl,Lib.hid (fun m h1 h2 => by omega)⟩
         case round =>
          obtain ⟨j,hj1,hj2,rfl,hct⟩:=hrel
          by_cases hj:j < 3
          ·have hkj:k+j < s.size:=by omega
           obtain ⟨D,hD⟩:∃ D:Nat,(s[k+j]).toNat=D:=⟨_,rfl⟩;have hD2:((s[k+j]).toNat:Int)=(D:Int):=by rw [hD]
           have HD:Hid (at_ (s.data.toList.drop k) j=D):=Lib.hid (by rw [at_drop s k j hkj];exact hD)
           have hD3:(D:Int)≤255:=by have:=(s[k+j]).toNat_lt;omega
           clear hD
           by_cases g1:(D:Int) < 128
           ·obtain rfl:ANS=false:=HNO.out (fun h => by have h1:=h.2.2.1 j (by rw [H0.out,HW.out];exact hj) (by omega);rw [HD.out] at h1;unfold isCont at h1;omega)
            go_wp2
            go_ret
            exact ⟨rfl,rfl⟩
           ·by_cases g2:(191:Int) < (D:Int)
            ·obtain rfl:ANS=false:=HNO.out (fun h => by have h1:=h.2.2.1 j (by rw [H0.out,HW.out];exact hj) (by omega);rw [HD.out] at h1;unfold isCont at h1;omega)
             go_wp2
             go_ret
             exact ⟨rfl,rfl⟩
            ·have HCT:Hid (∀ m,0 < m → m < j+1 → isCont (at_ (s.data.toList.drop k) m)):=Lib.hid (fun m h1 h2 => by
              rcases Nat.lt_succ_iff_lt_or_eq.1 h2 with h3 | rfl
              ·exact hct.out m h1 h3
              ·rw [HD.out];unfold isCont;omega)
             go_wp2
             go_round
             case rel => exact ⟨j+1,by omega,by omega,by go_num,HCT⟩
             case measure => simp [RowKit.intOf];omega
          ·obtain rfl:j=3:=by omega
           clear hj hj1 hj2;have hk1:k+1 < s.size:=by omega
           obtain ⟨D1,hD⟩:∃ D:Nat,(s[k+1]).toNat=D:=⟨_,rfl⟩;have hD2:((s[k+1]).toNat:Int)=(D1:Int):=by rw [hD]
           have HD1:Hid (at_ (s.data.toList.drop k) 1=D1):=Lib.hid (by rw [at_drop s k 1 hk1];exact hD)
           have hD3:(D1:Int)≤255:=by have:=(s[k+1]).toNat_lt;omega
           clear hD
           by_cases c1:(C:Int)=224
           ·have hc1:((C:Int) == 224)=true:=by simpa using c1
            have hc2:((C:Int) == 237)=false:=by simp;omega
            by_cases g1:(D1:Int) < 160
            ·obtain rfl:ANS=false:=HNO.out (fun h => by have h1:=h.2.2.2;rw [H0.out,HW.out,HD1.out] at h1;unfold isBad at h1;omega)
             go_wp2
             go_ret
             exact ⟨rfl,rfl⟩
            ·have HOK:Hid (headOk (s.data.toList.drop k)):=Lib.hid ⟨by rw [H0.out,HW.out];omega,by rw [H0.out,HW.out,HL.out];omega,fun m hm h0 => hct.out m h0 (by rw [H0.out,HW.out] at hm;omega),by rw [H0.out,HW.out,HD1.out];unfold isBad;omega⟩
             go_wp2
             go_round
             case rel => exact ⟨k+3,by omega,by go_num,Lib.hid (HYES.out 3 HW.out HOK.out)⟩
             case measure => simp [RowKit.intOf];omega
           ·have hc1:((C:Int) == 224)=false:=by simpa using c1
            by_cases c2:(C:Int)=237
            ·have hc2:((C:Int) == 237)=true:=by simpa using c2
             by_cases g1:(159:Int) < (D1:Int)
             ·obtain rfl:ANS=false:=HNO.out (fun h => by have h1:=h.2.2.2;rw [H0.out,HW.out,HD1.out] at h1;unfold isBad at h1;omega)
              go_wp2
              go_ret
              exact ⟨rfl,rfl⟩
             ·have HOK:Hid (headOk (s.data.toList.drop k)):=Lib.hid ⟨by rw [H0.out,HW.out];omega,by rw [H0.out,HW.out,HL.out];omega,fun m hm h0 => hct.out m h0 (by rw [H0.out,HW.out] at hm;omega),by rw [H0.out,HW.out,HD1.out];unfold isBad;omega⟩
              go_wp2
              go_round
              case rel => exact ⟨k+3,by omega,by go_num,Lib.hid (HYES.out 3 HW.out HOK.out)⟩
              case measure => simp [RowKit.intOf];omega
            ·have hc2:((C:Int) == 237)=false:=by simpa using c2
             have HOK:Hid (headOk (s.data.toList.drop k)):=Lib.hid ⟨by rw [H0.out,HW.out];omega,by rw [H0.out,HW.out,HL.out];omega,fun m hm h0 => hct.out m h0 (by rw [H0.out,HW.out] at hm;omega),by rw [H0.out,HW.out,HD1.out];unfold isBad;omega⟩
             go_wp2
             go_round
             case rel => exact ⟨k+3,by omega,by go_num,Lib.hid (HYES.out 3 HW.out HOK.out)⟩
             case measure => simp [RowKit.intOf];omega
        ·have hN2:(s.size:Int) - (k:Int) < 3:=by omega
         obtain rfl:ANS=false:=HNO.out (fun h => by have h1:=h.2.1;rw [H0.out,HW.out,HL.out] at h1;omega)
         go_wp2
         go_ret
         exact ⟨rfl,rfl⟩
       ·have h6:(240:Int)≤(C:Int):=by omega
        by_cases h7:(C:Int) < 245
        ·have HW:Hid (wideC C=4):=Lib.hid (by unfold wideC;rw [if_neg (by omega),if_neg (by omega),if_neg (by omega),if_neg (by omega),if_pos (by omega)])
         by_cases hN:k+4≤s.size
         ·have hN2:¬ ((s.size:Int) - (k:Int) < 4):=by omega
          go_wp2
          go_loop [6] (fun i => ∃ (j:Nat),1≤j∧j≤4∧i=.int .i64 j∧Hid (∀ m,0 < m → m < j → isCont (at_ (s.data.toList.drop k) m))) (fun i => 4 - (RowKit.intOf i).toNat)
          case atStart => exact ⟨1,by omega,by omega,rfl,Lib.hid (fun m h1 h2 => by omega)⟩
          case round =>
           obtain ⟨j,hj1,hj2,rfl,hct⟩:=hrel
           by_cases hj:j < 4
           ·have hkj:k+j < s.size:=by omega
            obtain ⟨D,hD⟩:∃ D:Nat,(s[k+j]).toNat=D:=⟨_,rfl⟩;have hD2:((s[k+j]).toNat:Int)=(D:Int):=by rw [hD]
            have HD:Hid (at_ (s.data.toList.drop k) j=D):=Lib.hid (by rw [at_drop s k j hkj];exact hD)
            have hD3:(D:Int)≤255:=by have:=(s[k+j]).toNat_lt;omega
            clear hD
            by_cases g1:(D:Int) < 128
            ·obtain rfl:ANS=false:=HNO.out (fun h => by have h1:=h.2.2.1 j (by rw [H0.out,HW.out];exact hj) (by omega);rw [HD.out] at h1;unfold isCont at h1;omega)
             go_wp2
             go_ret
             exact ⟨rfl,rfl⟩
            ·by_cases g2:(191:Int) < (D:Int)
             ·obtain rfl:ANS=false:=HNO.out (fun h => by have h1:=h.2.2.1 j (by rw [H0.out,HW.out];exact hj) (by omega);rw [HD.out] at h1;unfold isCont at h1;omega)
              go_wp2
              go_ret
              exact ⟨rfl,rfl⟩
             ·have HCT:Hid (∀ m,0 < m → m < j+1 → isCont (at_ (s.data.toList.drop k) m)):=Lib.hid (fun m h1 h2 => by
               rcases Nat.lt_succ_iff_lt_or_eq.1 h2 with h3 | rfl
               ·exact hct.out m h1 h3
               ·rw [HD.out];unfold isCont;omega)
              go_wp2
              go_round
              case rel => exact ⟨j+1,by omega,by omega,by go_num,HCT⟩
              case measure => simp [RowKit.intOf];omega
           ·obtain rfl:j=4:=by omega
            clear hj hj1 hj2;have hk1:k+1 < s.size:=by omega
            obtain ⟨D1,hD⟩:∃ D:Nat,(s[k+1]).toNat=D:=⟨_,rfl⟩;have hD2:((s[k+1]).toNat:Int)=(D1:Int):=by rw [hD]
            have HD1:Hid (at_ (s.data.toList.drop k) 1=D1):=Lib.hid (by rw [at_drop s k 1 hk1];exact hD)
            have hD3:(D1:Int)≤255:=by have:=(s[k+1]).toNat_lt;omega
            clear hD
            by_cases c1:(C:Int)=240
            ·have hc1:((C:Int) == 240)=true:=by simpa using c1
             have hc2:((C:Int) == 244)=false:=by simp;omega
             by_cases g1:(D1:Int) < 144
             ·obtain rfl:ANS=false:=HNO.out (fun h => by have h1:=h.2.2.2;rw [H0.out,HW.out,HD1.out] at h1;unfold isBad at h1;omega)
              go_wp2
              go_ret
              exact ⟨rfl,rfl⟩
             ·have HOK:Hid (headOk (s.data.toList.drop k)):=Lib.hid ⟨by rw [H0.out,HW.out];omega,by rw [H0.out,HW.out,HL.out];omega,fun m hm h0 => hct.out m h0 (by rw [H0.out,HW.out] at hm;omega),by rw [H0.out,HW.out,HD1.out];unfold isBad;omega⟩
              go_wp2
              go_round
              case rel => exact ⟨k+4,by omega,by go_num,Lib.hid (HYES.out 4 HW.out HOK.out)⟩
              case measure => simp [RowKit.intOf];omega
            ·have hc1:((C:Int) == 240)=false:=by simpa using c1
             by_cases c2:(C:Int)=244
             ·have hc2:((C:Int) == 244)=true:=by simpa using c2
              by_cases g1:(143:Int) < (D1:Int)
              ·obtain rfl:ANS=false:=HNO.out (fun h => by have h1:=h.2.2.2;rw [H0.out,HW.out,HD1.out] at h1;unfold isBad at h1;omega)
               go_wp2
               go_ret
               exact ⟨rfl,rfl⟩
              ·have HOK:Hid (headOk (s.data.toList.drop k)):=Lib.hid ⟨by rw [H0.out,HW.out];omega,by rw [H0.out,HW.out,HL.out];omega,fun m hm h0 => hct.out m h0 (by rw [H0.out,HW.out] at hm;omega),by rw [H0.out,HW.out,HD1.out];unfold isBad;omega⟩
               go_wp2
               go_round
               case rel => exact ⟨k+4,by omega,by go_num,Lib.hid (HYES.out 4 HW.out HOK.out)⟩
               case measure => simp [RowKit.intOf];omega
             ·have hc2:((C:Int) == 244)=false:=by simpa using c2
              have HOK:Hid (headOk (s.data.toList.drop k)):=Lib.hid ⟨by rw [H0.out,HW.out];omega,by rw [H0.out,HW.out,HL.out];omega,fun m hm h0 => hct.out m h0 (by rw [H0.out,HW.out] at hm;omega),by rw [H0.out,HW.out,HD1.out];unfold isBad;omega⟩
              go_wp2
              go_round
              case rel => exact ⟨k+4,by omega,by go_num,Lib.hid (HYES.out 4 HW.out HOK.out)⟩
              case measure => simp [RowKit.intOf];omega
         ·have hN2:(s.size:Int) - (k:Int) < 4:=by omega
          obtain rfl:ANS=false:=HNO.out (fun h => by have h1:=h.2.1;rw [H0.out,HW.out,HL.out] at h1;omega)
          go_wp2
          go_ret
          exact ⟨rfl,rfl⟩
        ·have HW:Hid (wideC C=0):=Lib.hid (by unfold wideC;rw [if_neg (by omega),if_neg (by omega),if_neg (by omega),if_neg (by omega),if_neg (by omega)])
         obtain rfl:ANS=false:=HNO.out (fun h => h.1 (by rw [H0.out,HW.out]))
         go_wp2
         go_ret
         exact ⟨rfl,rfl⟩
     ·have h4:¬ (224:Int)≤(C:Int):=by omega
      have h6:¬ (240:Int)≤(C:Int):=by omega
      have HW:Hid (wideC C=0):=Lib.hid (by unfold wideC;rw [if_neg (by omega),if_neg (by omega),if_neg (by omega),if_neg (by omega),if_neg (by omega)])
      obtain rfl:ANS=false:=HNO.out (fun h => h.1 (by rw [H0.out,HW.out]))
      go_wp2
      go_ret
      exact ⟨rfl,rfl⟩
  ·obtain rfl:k=s.size:=by omega
   have hl:¬ ((s.size:Int) < (s.size:Int)):=by omega
   obtain rfl:true=ANS:=by rw [← hr.out,List.drop_eq_nil_of_le (by rw [← size_of];exact Nat.le_refl _)];rfl
   go_wp2
   go_ret
   exact ⟨rfl,rfl⟩
end Go.Proofs.YtfhelebejclalaaDoor.Path
end
section
namespace Go.Proofs.YtfhelebejclalaaDoor.Path
open Go.ChangeShapes Go.WideShapes Go.ChangeAt Go.RowKit Base Byt Txt Go.Lib
set_option linter.unusedVariables false
set_option maxRecDepth 100000
theorem parts_at (l:List UInt8) (a i:Nat) (ha:a≤i) (hi:i < l.length) (hn:∀ j,a≤j → j < i → l.getD j 0≠47) (h:l.getD i 0=47) :
 partsL (l.drop a)=(l.drop a).take (i - a) :: partsL (l.drop (i+1)):=by
 have e:l.drop a=(l.drop a).take (i - a)++47 :: l.drop (i+1):=by
  have h1:(l.drop a).drop (i - a)=47 :: l.drop (i+1):=by
   rw [List.drop_drop,show a+(i - a)=i by omega,List.drop_eq_getElem_cons hi]
   congr 1
   rw [← h,List.getD,List.getElem?_eq_getElem hi];rfl
  rw [← h1,List.take_append_drop]
 have hp:(47:UInt8) ∉ (l.drop a).take (i - a):=fun hm => by
  obtain ⟨j,hj,he⟩:=List.mem_iff_getElem.1 hm;rw [List.length_take,List.length_drop] at hj;rw [List.getElem_take,List.getElem_drop] at he;refine hn (a+j) (by omega) (by omega) ?_
  rw [List.getD,List.getElem?_eq_getElem (by omega),he];rfl
 rw [e,parts_app,parts_plain _ hp,← e];rfl
theorem parts_end (l:List UInt8) (a:Nat) (ha:a≤l.length) (hn:∀ j,a≤j → j < l.length → l.getD j 0≠47):partsL (l.drop a)=[(l.drop a).take (l.length - a)]:=by
 have e:(l.drop a).take (l.length - a)=l.drop a:=List.take_of_length_le (by rw [List.length_drop];exact Nat.le_refl _)
 rw [e];refine parts_plain _ fun hm => ?_
 obtain ⟨j,hj,he⟩:=List.mem_iff_getElem.1 hm;rw [List.length_drop] at hj;rw [List.getElem_drop] at he;refine hn (a+j) (by omega) (by omega) ?_
 rw [List.getD,List.getElem?_eq_getElem (by omega),he];rfl
theorem part_size (l:List UInt8) (a i:Nat) (hi:i≤l.length) (ha:a≤i):((l.drop a).take (i - a)).length=i - a:=by
 rw [List.length_take,List.length_drop];omega
theorem str_ext (s:ByteArray) (a i:Nat):s.extract a i=str ((s.data.toList.drop a).take (i - a)):=by
 apply ByteArray.ext;rw [← Array.toList_inj];simp [str,ByteArray.data_extract,List.extract_eq_take_drop]
def CRel (s:ByteArray) (G:Option (List UInt8)) (i a:Nat) (out:List UInt8):Prop:=
 out.length≤a∧((a≤i∧i≤s.size∧(∀ j,a≤j → j < i → s.data.toList.getD j 0≠47)∧goC out (partsL (s.data.toList.drop a))=G) ∨ (i=s.size+1∧a≤i∧G=some out))
theorem crel_next (s:ByteArray) (G:Option (List UInt8)) (i a:Nat) (out p:List UInt8) (h:out.length≤a) (ha:a≤i) (hi:i≤s.size) (hn:∀ j,a≤j → j < i → s.data.toList.getD j 0≠47)
 (hg:goC out (partsL (s.data.toList.drop a))=G) (hp:p=(s.data.toList.drop a).take (i - a)) (he:i=s.size ∨ s.data.toList.getD i 0=47) :
 (p=[46,46] → G=none)∧(p≠[46,46] → CRel s G (i+1) (i+1) (joinP out p)):=by
 have hsz:s.data.toList.length=s.size:=(size_of s).symm;have hpl:p.length=i - a:=by rw [hp];exact part_size _ _ _ (by rw [hsz];exact hi) ha
 have hjl:(joinP out p).length≤i+1:=by
  unfold joinP
  split
  ·omega
  ·split
   ·omega
   ·rw [List.length_append,List.length_cons];omega
 by_cases hlt:i < s.size
 ·have h47:s.data.toList.getD i 0=47:=by rcases he with h | h;omega;exact h
  rw [parts_at _ a i ha (by rw [hsz];exact hlt) hn h47,← hp] at hg
  unfold goC at hg;refine ⟨fun e => by rw [if_pos e] at hg;exact hg.symm,fun e => ?_⟩
  rw [if_neg e] at hg;exact ⟨hjl,.inl ⟨Nat.le_refl _,hlt,fun j h1 h2 => by omega,hg⟩⟩
 ·obtain rfl:i=s.size:=by omega
  have hpe:=parts_end s.data.toList a (by rw [hsz];exact ha) (by rw [hsz];exact hn)
  rw [hsz,← hp] at hpe;rw [hpe] at hg;unfold goC at hg;refine ⟨fun e => by rw [if_pos e] at hg;exact hg.symm,fun e => ?_⟩
  rw [if_neg e] at hg;exact ⟨hjl,.inr ⟨rfl,Nat.le_refl _,hg.symm⟩⟩
set_option maxHeartbeats 4000000 in
theorem rclean_any (s:ByteArray) (w:World) (hm:s.size≤140737488351232) :
 Calls Tryd.prog 44 #[.string s] w fun e w' => e=.returned (.tuple #[.string (str (cleanD 9 6 s.data.toList).1),.int .i64 (cleanD 9 6 s.data.toList).2])∧w=w':=by
 have hT:=rtext_any s w (by omega)
 have hsz:s.data.toList.length=s.size:=(size_of s).symm;obtain ⟨R,hR⟩:∃ R,cleanD 9 6 s.data.toList=R:=⟨_,rfl⟩;rw [hR];unfold cleanD at hR
 cases ht:textD s.data.toList with
 | false =>
   rw [ht] at hT hR;rw [if_pos rfl] at hR;subst hR;clear hsz
   go_enter Tryd.func44,Tryd.ntmps44
   go_wp2_with (go_at_call 45;refine hT.mono ?_;rintro e w' ⟨rfl,rfl⟩)
   go_ret2
   exact ⟨rfl,rfl⟩
 | true =>
   rw [ht] at hT hR;rw [if_neg (by simp)] at hR
   by_cases hz:s.size=0
   ·have hl:s.data.toList=[]:=List.length_eq_zero_iff.1 (by rw [hsz];exact hz)
    rw [hl,show ([]:List UInt8).headD 47=47 from rfl,if_pos rfl] at hR
    subst hR;have hb:s.toList.isEmpty=true:=by rw [Lib.toList_data,hl];rfl
    clear hsz hz hl
    go_enter Tryd.func44,Tryd.ntmps44
    go_wp2_with (go_at_call 45;refine hT.mono ?_;rintro e w' ⟨rfl,rfl⟩)
    go_ret2
    exact ⟨rfl,rfl⟩
   ·have h0:0 < s.size:=by omega
    have hb:s.toList.isEmpty=false:=by
     rw [Lib.toList_data]
     cases hl:s.data.toList with
     | nil => rw [hl] at hsz;simp at hsz;omega
     | cons _ _ => rfl
    have hhd:s.data.toList.headD 47=s[0]:=by
     have e:s.data.toList[0]'(by rw [hsz];exact h0)=s[0]:=rfl
     cases hl:s.data.toList with
     | nil => rw [hl] at hsz;simp at hsz;omega
     | cons b t => simp only [hl] at e;exact e
    rw [hhd] at hR;clear hhd hz
    by_cases hc:s[0]=47
    ·rw [if_pos hc] at hR
     subst hR;have hcb:(((s[0]).toNat:Int) == 47)=true:=by rw [hc];rfl
     clear hc hsz
     go_enter Tryd.func44,Tryd.ntmps44
     go_wp2_with (go_at_call 45;refine hT.mono ?_;rintro e w' ⟨rfl,rfl⟩)
     go_ret2
     exact ⟨rfl,rfl⟩
    ·rw [if_neg hc] at hR
     have hcb:(((s[0]).toNat:Int) == 47)=false:=by
      have:¬ (s[0]).toNat=47:=fun e => hc (UInt8.toNat_inj.1 e)
      simp;omega
     obtain ⟨G,hG⟩:∃ G,goC [] (partsL s.data.toList)=G:=⟨_,rfl⟩;rw [hG] at hR;have HR:=Lib.hid hR;have H0:Hid (CRel s G 0 0 []):=Lib.hid ⟨Nat.le_refl _,.inl ⟨Nat.le_refl _,Nat.zero_le _,fun j h1 h2 => by omega,by rw [List.drop_zero];exact hG⟩⟩
     clear hR hG hc hsz
     go_enter Tryd.func44,Tryd.ntmps44
     go_wp2_with (go_at_call 45;refine hT.mono ?_;rintro e w' ⟨rfl,rfl⟩)
     go_loop [4,5,6] (fun o at_ i => ∃ (a k:Nat) (out:List UInt8),k≤s.size+1∧a≤k∧o=.string (str out)∧at_=.int .i64 a∧i=.int .i64 k∧Hid (CRel s G k a out)) (fun _ _ i => s.size+1 - (RowKit.intOf i).toNat)
     case atStart => exact ⟨0,0,[],by omega,by omega,rfl,rfl,rfl,H0⟩
     case round =>
      obtain ⟨a,k,out,hk,hak,rfl,rfl,rfl,hr⟩:=hrel
      by_cases hlt:k≤s.size
      ·have hr':out.length≤a∧(∀ j,a≤j → j < k → s.data.toList.getD j 0≠47)∧goC out (partsL (s.data.toList.drop a))=G:=by
        obtain ⟨h1,⟨_,_,h2,h3⟩ | ⟨h2,_⟩⟩:=hr.out
        ·exact ⟨h1,h2,h3⟩
        ·omega
       have HX:=Lib.hid hr';clear hr hr'
       by_cases hks:k < s.size
       ·have hxg:s[k]=s.data.toList.getD k 0:=(by rw [List.getD,List.getElem?_eq_getElem (show k < s.data.toList.length by rw [← size_of];exact hks)];rfl)
        by_cases hc:s[k]=47
        ·have hcb2:(((s[k]).toNat:Int) == 47)=true:=by rw [hc];rfl
         have he:k=s.size ∨ s.data.toList.getD k 0=47:=.inr (by rw [← hxg];exact hc)
         clear hxg hc;obtain ⟨p,hp⟩:∃ p,p=(s.data.toList.drop a).take (k - a):=⟨_,rfl⟩;obtain ⟨n1,n2⟩:=crel_next s G k a out p HX.out.1 hak hlt HX.out.2.1 HX.out.2.2 hp he;have hext:s.extract a k=str p:=by rw [str_ext,hp]
         have hss:(str out).size+1+(str p).size≤9223372036854775807:=by
          rw [str_size,str_size,hp,part_size _ _ _ (by rw [← size_of];exact hlt) hak]
          have:=HX.out.1;omega
         have hss1:(str out).size+1≤9223372036854775807:=by omega
         have hss2:(str out++⟨#[47]⟩).size+(str p).size≤9223372036854775807:=by rw [ByteArray.size_append];exact hss
         have hss3:(str out).size+(str p).size≤9223372036854775807:=by omega
         clear hp he
         by_cases h1:p=[46,46]
         ·have b1:((str p).toList == [46,46])=true:=by rw [str_is];simpa using h1
          have hR:=HR.out;rw [n1 h1] at hR;simp only at hR;subst hR;clear h1 n1 n2
          go_wp2
          go_ret2
          exact ⟨rfl,rfl⟩
         ·have b1:((str p).toList == [46,46])=false:=by rw [str_is];simpa using h1
          have HN:=Lib.hid (n2 h1);clear h1 n1 n2
          by_cases h2:p=[]
          ·have b2:(str p).toList.isEmpty=true:=by rw [str_empty];simpa using h2
           have HJ:Hid (joinP out p=out):=Lib.hid (by unfold joinP;rw [if_pos (.inl h2)])
           clear h2
           go_wp2
           go_round
           case rel => exact ⟨k+1,k+1,out,by omega,by omega,rfl,by go_num,by go_num,by have:=HN.out;rw [HJ.out] at this;exact this⟩
           case measure => simp [RowKit.intOf];omega
          ·have b2:(str p).toList.isEmpty=false:=by rw [str_empty];simpa using h2
           by_cases h3:p=[46]
           ·have b3:((str p).toList == [46])=true:=by rw [str_is];simpa using h3
            have HJ:Hid (joinP out p=out):=Lib.hid (by unfold joinP;rw [if_pos (.inr h3)])
            clear h2 h3
            go_wp2
            go_round
            case rel => exact ⟨k+1,k+1,out,by omega,by omega,rfl,by go_num,by go_num,by have:=HN.out;rw [HJ.out] at this;exact this⟩
            case measure => simp [RowKit.intOf];omega
           ·have b3:((str p).toList == [46])=false:=by rw [str_is];simpa using h3
            by_cases h4:out=[]
            ·have b4:(str out).toList.isEmpty=true:=by rw [str_empty];simpa using h4
             have HJ:Hid (str out++str p=str (joinP out p)):=Lib.hid (by unfold joinP;rw [if_neg (fun h => h.elim h2 h3),if_pos h4,str_app,h4];rfl)
             clear h2 h3 h4
             go_wp2
             go_round
             case rel => exact ⟨k+1,k+1,joinP out p,by omega,by omega,by rw [← HJ.out],by go_num,by go_num,HN⟩
             case measure => simp [RowKit.intOf];omega
            ·have b4:(str out).toList.isEmpty=false:=by rw [str_empty];simpa using h4
             have HJ:Hid (str out++⟨#[47]⟩++str p=str (joinP out p)):=Lib.hid (by unfold joinP;rw [if_neg (fun h => h.elim h2 h3),if_neg h4,show (⟨#[47]⟩:ByteArray)=str [47] from rfl,str_app,str_app];simp)
             clear h2 h3 h4
             go_wp2
             go_round
             case rel => exact ⟨k+1,k+1,joinP out p,by omega,by omega,by rw [← HJ.out],by go_num,by go_num,HN⟩
             case measure => simp [RowKit.intOf];omega
        ·have hcb2:(((s[k]).toNat:Int) == 47)=false:=by
          have:¬ (s[k]).toNat=47:=fun e => hc (UInt8.toNat_inj.1 e)
          simp;omega
         have HN:Hid (CRel s G (k+1) a out):=Lib.hid ⟨HX.out.1,.inl ⟨by omega,hks,fun j h1 h2 => by
          rcases Nat.lt_succ_iff_lt_or_eq.1 h2 with h3 | rfl
          ·exact HX.out.2.1 j h1 h3
          ·rw [← hxg];exact hc,HX.out.2.2⟩⟩
         clear hxg hc
         go_wp2
         go_round
         case rel => exact ⟨a,k+1,out,by omega,by omega,rfl,rfl,by go_num,HN⟩
         case measure => simp [RowKit.intOf];omega
       ·have he:k=s.size ∨ s.data.toList.getD k 0=47:=.inl (by omega)
        obtain ⟨p,hp⟩:∃ p,p=(s.data.toList.drop a).take (k - a):=⟨_,rfl⟩;obtain ⟨n1,n2⟩:=crel_next s G k a out p HX.out.1 hak hlt HX.out.2.1 HX.out.2.2 hp he;have hext:s.extract a k=str p:=by rw [str_ext,hp]
        have hss:(str out).size+1+(str p).size≤9223372036854775807:=by
         rw [str_size,str_size,hp,part_size _ _ _ (by rw [← size_of];exact hlt) hak]
         have:=HX.out.1;omega
        have hss1:(str out).size+1≤9223372036854775807:=by omega
        have hss2:(str out++⟨#[47]⟩).size+(str p).size≤9223372036854775807:=by rw [ByteArray.size_append];exact hss
        have hss3:(str out).size+(str p).size≤9223372036854775807:=by omega
        clear hp he
        by_cases h1:p=[46,46]
        ·have b1:((str p).toList == [46,46])=true:=by rw [str_is];simpa using h1
         have hR:=HR.out;rw [n1 h1] at hR;simp only at hR;subst hR;clear h1 n1 n2
         go_wp2
         go_ret2
         exact ⟨rfl,rfl⟩
        ·have b1:((str p).toList == [46,46])=false:=by rw [str_is];simpa using h1
         have HN:=Lib.hid (n2 h1);clear h1 n1 n2
         by_cases h2:p=[]
         ·have b2:(str p).toList.isEmpty=true:=by rw [str_empty];simpa using h2
          have HJ:Hid (joinP out p=out):=Lib.hid (by unfold joinP;rw [if_pos (.inl h2)])
          clear h2
          go_wp2
          go_round
          case rel => exact ⟨k+1,k+1,out,by omega,by omega,rfl,by go_num,by go_num,by have:=HN.out;rw [HJ.out] at this;exact this⟩
          case measure => simp [RowKit.intOf];omega
         ·have b2:(str p).toList.isEmpty=false:=by rw [str_empty];simpa using h2
          by_cases h3:p=[46]
          ·have b3:((str p).toList == [46])=true:=by rw [str_is];simpa using h3
           have HJ:Hid (joinP out p=out):=Lib.hid (by unfold joinP;rw [if_pos (.inr h3)])
           clear h2 h3
           go_wp2
           go_round
           case rel => exact ⟨k+1,k+1,out,by omega,by omega,rfl,by go_num,by go_num,by have:=HN.out;rw [HJ.out] at this;exact this⟩
           case measure => simp [RowKit.intOf];omega
          ·have b3:((str p).toList == [46])=false:=by rw [str_is];simpa using h3
           by_cases h4:out=[]
           ·have b4:(str out).toList.isEmpty=true:=by rw [str_empty];simpa using h4
            have HJ:Hid (str out++str p=str (joinP out p)):=Lib.hid (by unfold joinP;rw [if_neg (fun h => h.elim h2 h3),if_pos h4,str_app,h4];rfl)
            clear h2 h3 h4
            go_wp2
            go_round
            case rel => exact ⟨k+1,k+1,joinP out p,by omega,by omega,by rw [← HJ.out],by go_num,by go_num,HN⟩
            case measure => simp [RowKit.intOf];omega
           ·have b4:(str out).toList.isEmpty=false:=by rw [str_empty];simpa using h4
            have HJ:Hid (str out++⟨#[47]⟩++str p=str (joinP out p)):=Lib.hid (by unfold joinP;rw [if_neg (fun h => h.elim h2 h3),if_neg h4,show (⟨#[47]⟩:ByteArray)=str [47] from rfl,str_app,str_app];simp)
            clear h2 h3 h4
            go_wp2
            go_round
            case rel => exact ⟨k+1,k+1,joinP out p,by omega,by omega,by rw [← HJ.out],by go_num,by go_num,HN⟩
            case measure => simp [RowKit.intOf];omega
      ·obtain rfl:k=s.size+1:=by omega
       have hl:¬ (((s.size+1:Nat):Int)≤(s.size:Int)):=by omega
       have hG:G=some out:=by
        obtain ⟨h1,⟨_,h2,_⟩ | ⟨_,_,h2⟩⟩:=hr.out
        ·omega
        ·exact h2
       have hR:=HR.out;rw [hG] at hR;simp only at hR;obtain ⟨n,hn⟩:∃ n,(str out).size=n:=⟨_,rfl⟩;have hn':n=out.length:=by rw [← hn,str_size]
       by_cases ho:out=[]
       ·have hb1:(str out).toList.isEmpty=true:=by rw [str_empty];simpa using ho
        rw [if_pos (.inl ho)] at hR;subst hR;clear ho hG hn' hr
        go_wp2
        go_ret2
        exact ⟨rfl,rfl⟩
       ·have hb1:(str out).toList.isEmpty=false:=by rw [str_empty];simpa using ho
        by_cases h2:200 < out.length
        ·have hb2:(200:Int) < (n:Int):=by omega
         rw [if_pos (.inr h2)] at hR;subst hR;clear ho hG hn' hr h2
         go_wp2
         go_ret2
         exact ⟨rfl,rfl⟩
        ·have hb2:¬ (200:Int) < (n:Int):=by omega
         rw [if_neg (fun h => h.elim ho h2)] at hR
         subst hR;clear ho hG hn' hr h2
         go_wp2
         go_ret2
         exact ⟨rfl,rfl⟩
end Go.Proofs.YtfhelebejclalaaDoor.Path
end
section
namespace Go.Proofs.YtfhelebejclalaaDoor.Rec
open Go.ChangeShapes Go.WideShapes Go.ChangeAt Go.RowKit Base
set_option linter.unusedVariables false
theorem row_below {w w':World} {B:Nat} {e:TypeId} {k:Nat} {v:Value} {n:Nat} {xs:List Value} (h:w.ownsRow B e k v n xs) (hb:Below w.heap.size w w'):w'.ownsRow B e k v n xs:=by
 refine ⟨h.1,?_⟩;rcases h.2 with h2 | ⟨g,cap,cur,rfl,h3,h4,h5⟩
 ·exact .inl h2
 ·exact .inr ⟨g,cap,cur,rfl,h3,by rw [hb.block g (Array.getElem?_eq_some_iff.1 h4).1];exact h4,h5⟩
end Go.Proofs.YtfhelebejclalaaDoor.Rec
end
