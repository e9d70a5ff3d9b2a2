/- Texts of this seat, merged: what the proof reaches. -/
import Derived.Test.YtnpkcneojilmkaaGreatDoorMemberGNUX13
import Derived.RangeFuncNested
import Derived.Test.YtnpkcneojilmkaaGreatDoorMemberGNUX24
import Derived.Test.YtnpkcneojilmkaaGreatDoorMemberGNUX14
import Derived.Test.YtnpkcneojilmkaaGreatDoorMemberGNUX11
import Derived.Laws.AppendOwn
import Derived.OwnWalk
import Derived.Laws.StructEq
import Derived.Test.YtnpkcneojilmkaaGreatDoorMemberGNUX8
import Derived.Test.YtnpkcneojilmkaaGreatDoorMemberGNUX4
import Derived.Test.YtnpkcneojilmkaaGreatDoorMemberGNUX5
import Derived.Test.YtnpkcneojilmkaaGreatDoorMemberGNUX16
import Derived.Deep.Draws
import Derived.BigCall
import Derived.Shelf.RegionOpenPlain
import Derived.Test.YtnpkcneojilmkaaGreatDoorMemberGNUX15
import Derived.Test.YtnpkcneojilmkaaGreatDoorMemberGNUX25
import Derived.Deep.SlicePairs
import Derived.OpenShut
import Derived.SizedLaws
section
namespace Go.Proofs.YtnpkcneojilmkaaGreatDoor.Bk
open Go.ChangeShapes Go.WideShapes Go.ChangeAt Go.RowKit Base Byt
set_option linter.unusedVariables false
def Blk (W:World) (b:Nat) (t:TypeId) (cs:Array Value):Prop:=W.heap[b]? = some (.cells cs t (0,0))
section
variable {W W':World} {b:Nat} {t:TypeId} {cs:Array Value}
theorem Blk.lt (h:Blk W b t cs):b < W.heap.size:=(Array.getElem?_eq_some_iff.1 h).1
theorem Blk.cell (h:Blk W b t cs) (i:Nat):W.cell? ⟨b,i,none⟩=cs[i]?:=by simp [World.cell?,show W.heap[b]? = _ from h]
theorem Blk.frozen (h:Blk W b t cs) (i:Nat):W.frozen? ⟨b,i,none⟩=false:=by simp [World.frozen?,show W.heap[b]? = _ from h]
theorem Blk.new (W:World) (t:TypeId) (cs:Array Value):Blk (W.alloc (.cells cs t)) W.heap.size t cs:=World.alloc_heap_new W _
theorem Blk.kept (h:Blk W b t cs) {row:Option Nat} (hg:W.grownBy W' row) (hr:∀ r,row=some r → ∃ o:Obj,W.heap[r]? = some o∧o.isCells=false):Blk W' b t cs:=
 (grownBy_keeps_cells hg hr h rfl).trans h
theorem Blk.alloc (h:Blk W b t cs) (o:Obj):Blk (W.alloc o) b t cs:=h.kept (World.grownBy_alloc W o none) (fun r e => by cases e)
theorem Blk.drewN (h:Blk W b t cs) (n:Nat):Blk (W.drewN n) b t cs:=h
theorem Blk.drew (h:Blk W b t cs):Blk W.drew b t cs:=h
theorem Blk.below (h:Blk W b t cs) {n:Nat} (hb:Below n W W') (hn:b < n):Blk W' b t cs:=(hb.block b hn).trans h
theorem Blk.keptS {S:Nat → Prop} (h:Blk W b t cs) (hk:Kept S W W') (hn:¬ S b):Blk W' b t cs:=hk.some_ h hn
theorem Blk.set (h:Blk W b t cs) (i:Nat) (v:Value) (hi:i < cs.size):Blk (W.setCell ⟨b,i,none⟩ v) b t (cs.set i v hi):=by
 obtain ⟨hl,he⟩:=Array.getElem?_eq_some_iff.1 h;unfold Blk World.setCell;refine Array.getElem?_eq_some_iff.2 ⟨by simpa using hl,?_⟩
 rw [Array.getElem_modify,if_pos rfl,he];simp [Array.setIfInBounds,hi]
theorem Blk.other (h:Blk W b t cs) {b' i:Nat} (hne:b'≠b) (v:Value):Blk (W.setCell ⟨b',i,none⟩ v) b t cs:=by
 unfold Blk;rw [Below.heap_setCell _ _ _ _ (fun e => hne (by simpa using e.symm))]
 exact h
end
end Go.Proofs.YtnpkcneojilmkaaGreatDoor.Bk
end
section
namespace Go.Proofs.YtnpkcneojilmkaaGreatDoor.Mem
open Go.ChangeShapes Go.WideShapes Go.ChangeAt Go.RowKit Base Byt Txt Bk Go.Lib
set_option linter.unusedVariables false
set_option maxRecDepth 100000
structure MP where
 m:MemV
 p:Option Addr
 c:Nat
def zeroM:MemV:=⟨[],[],0,0,0,0,0,[]⟩
def zeroP:MP:=⟨zeroM,none,0⟩
def memC (m:MemV) (p:Option Addr) (c:Nat):Array Value:=#[.string (str m.path),.string (str m.target),.int .u8 (m.kind.toNat:Int),.int .i64 m.mode,.int .i64 m.uid,.int .i64 m.gid,.int .i64 m.time,.slice p m.body.length c]
def MP.cs (x:MP):Array Value:=memC x.m x.p x.c
theorem MP.cs_list (x:MP):x.cs.toList=[.string (str x.m.path),.string (str x.m.target),.int .u8 (x.m.kind.toNat:Int),.int .i64 x.m.mode,.int .i64 x.m.uid,.int .i64 x.m.gid,.int .i64 x.m.time,.slice x.p x.m.body.length x.c]:=rfl
structure BodyAt (w:World) (x:MP):Prop where
 bat:BAt w x.p x.m.body.length x.m.body
 le:x.m.body.length≤x.c
 mx:x.c≤maxLen
theorem BodyAt.kept {S:Nat → Prop} {w w':World} {x:MP} (h:BodyAt w x) (hk:Kept S w w') (hn:0 < x.m.body.length → ∀ a,x.p=some a → ¬ S a.block):BodyAt w' x:=⟨h.bat.kept hk hn,h.le,h.mx⟩
theorem BodyAt.below {w w':World} {x:MP} (h:BodyAt w x) (hb:Below w.heap.size w w'):BodyAt w' x:=⟨h.bat.below hb,h.le,h.mx⟩
def flatM (xs:List MP):List Value:=xs.flatMap fun x => x.cs.toList
theorem flatM_cons (x:MP) (xs:List MP):flatM (x :: xs)=x.cs.toList++flatM xs:=rfl
theorem flatM_snoc (xs:List MP) (x:MP):flatM (xs++[x])=flatM xs++x.cs.toList:=by simp [flatM]
theorem flatM_get (xs:List MP):∀ i,i < xs.length → ∀ j,j < 8 → (flatM xs)[8 * i+j]? = (xs.getD i zeroP).cs[j]?:=by
 induction xs with
 | nil => intro i h;simp at h
 | cons x xs ih =>
   intro i h j hj;rw [flatM_cons];have hl:x.cs.toList.length=8:=rfl
   cases i with
   | zero => rw [List.getElem?_append_left (by omega),show 8 * 0+j=j by omega,Array.getElem?_toList];rfl
   | succ i =>
     rw [List.getElem?_append_right (by omega),hl,show 8 * (i+1)+j - 8=8 * i+j by omega,ih i (by simpa using h) j hj]
     rfl
theorem flatM_one (xs:List MP):∀ u ∈ flatM xs,u.oneCell'=true:=by
 intro u hu;obtain ⟨x,_,hr⟩:=List.mem_flatMap.1 hu;rw [MP.cs_list] at hr;simp only [List.mem_cons,List.not_mem_nil,or_false] at hr;rcases hr with rfl | rfl | rfl | rfl | rfl | rfl | rfl | rfl<;>rfl
def MemsAt (w:World) (p:Option Addr) (n:Nat) (xs:List MP):Prop:=
 xs.length=n∧(∀ x ∈ xs,BodyAt w x)∧(0 < n → ∃ b o,p=some ⟨b,o,none⟩∧b < w.heap.size ∧ ∀ i,i < n → ∀ j,j < 8 → w.cell? ⟨b,o+8 * i+j,none⟩=(xs.getD i zeroP).cs[j]?)
theorem MemsAt.below {w w':World} {p:Option Addr} {n:Nat} {xs:List MP} (h:MemsAt w p n xs) (hb:Below w.heap.size w w'):MemsAt w' p n xs:=by
 refine ⟨h.1,fun x hx => (h.2.1 x hx).below hb,fun h0 => ?_⟩
 obtain ⟨b,o,rfl,hbw,hc⟩:=h.2.2 h0;refine ⟨b,o,rfl,Nat.lt_of_lt_of_le hbw hb.size,fun i hi j hj => ?_⟩
 rw [hb.cell (p:=⟨b,o+8 * i+j,none⟩) hbw];exact hc i hi j hj
theorem mems_nil (w:World) (p:Option Addr):MemsAt w p 0 []:=⟨rfl,fun x hx => by simp at hx,fun h => by omega⟩
theorem mems_own {w:World} {base:Nat} {e:TypeId} {v:Value} {xs:List MP} (h:w.ownsRow base e 8 v xs.length (flatM xs)) (hx:∀ x ∈ xs,BodyAt w x):∃ p c,v=.slice p xs.length c∧xs.length≤c∧c≤maxLen∧MemsAt w p xs.length xs:=by
 rcases h.2 with ⟨rfl,h0⟩ | ⟨g,cap,cur,rfl,hb,hg,hn,hc,hs,ht⟩
 ·exact ⟨none,0,by rw [h0],by omega,by decide,rfl,hx,fun h => by omega⟩
 ·refine ⟨some ⟨g,0,none⟩,cap,rfl,hn,hc,rfl,hx,fun h0 => ⟨g,0,rfl,(Array.getElem?_eq_some_iff.1 hg).1,fun i hi j hj => ?_⟩⟩
  have get:∀ j,j < 8 * xs.length → w.cell? ⟨g,j,none⟩=(flatM xs)[j]?:=fun j hj => by
   unfold World.cell?;rw [hg,← ht,List.getElem?_take,if_pos (by omega)]
   simp
  rw [Nat.zero_add,get _ (by omega)]
  exact flatM_get xs i hi j hj
theorem MemsAt.cells {w:World} {p:Option Addr} {n:Nat} {xs:List MP} (h:MemsAt w p n xs) {i:Nat} (hi:i < n):∃ b o,p=some ⟨b,o,none⟩∧b < w.heap.size∧BodyAt w (xs.getD i zeroP) ∧
 w.cell? ⟨b,o+8 * i,none⟩=some (.string (str (xs.getD i zeroP).m.path))∧w.cell? ⟨b,o+8 * i+1,none⟩=some (.string (str (xs.getD i zeroP).m.target)) ∧
 w.cell? ⟨b,o+8 * i+2,none⟩=some (.int .u8 ((xs.getD i zeroP).m.kind.toNat:Int))∧w.cell? ⟨b,o+8 * i+3,none⟩=some (.int .i64 (xs.getD i zeroP).m.mode) ∧
 w.cell? ⟨b,o+8 * i+4,none⟩=some (.int .i64 (xs.getD i zeroP).m.uid)∧w.cell? ⟨b,o+8 * i+5,none⟩=some (.int .i64 (xs.getD i zeroP).m.gid) ∧
 w.cell? ⟨b,o+8 * i+6,none⟩=some (.int .i64 (xs.getD i zeroP).m.time)∧w.cell? ⟨b,o+8 * i+7,none⟩=some (.slice (xs.getD i zeroP).p (xs.getD i zeroP).m.body.length (xs.getD i zeroP).c):=by
 obtain ⟨b,o,rfl,hbw,hc⟩:=h.2.2 (by omega)
 have hb:BodyAt w (xs.getD i zeroP):=h.2.1 _ (by
  have hl:i < xs.length:=by rw [h.1];exact hi
  rw [List.getD,List.getElem?_eq_getElem hl]
  exact List.getElem_mem hl)
 exact ⟨b,o,rfl,hbw,hb,hc i hi 0 (by omega),hc i hi 1 (by omega),hc i hi 2 (by omega),hc i hi 3 (by omega),hc i hi 4 (by omega),hc i hi 5 (by omega),hc i hi 6 (by omega),hc i hi 7 (by omega)⟩
theorem infoMem:(Tryz.prog.info? 26).map (fun i => (i.zero,i.size,i.bytes))=some (some (.agg #[.string ⟨#[]⟩,.string ⟨#[]⟩,.int .u8 0,.int .i64 0,.int .i64 0,.int .i64 0,.int .i64 0,.slice none 0 0]),8,96):=by kernel_rfl
theorem run_append_newS {P:Program} {w:World} (base:Nat) (t ty e:TypeId) (i:TypeInfo) (z:Value) (size bytes:Nat) (ht:P.underlying t=some (.slice e)) (hi:P.info? e=some i) (hz:i.zero=some z)
 (hsize:i.size=size) (hby:i.bytes=bytes) (hzs:z.cells.size=size) (hsz:0 < size)
 (v:Value) (n:Nat) (xs:List Value) (hown:w.ownsRow base e size v n xs)
 (a:Addr) (m c:Nat) (news:List Value) (hl:news.length=m * size) (hnews:∀ j u,news[j]? = some u → w.cell? (a.add j)=some u) (h1:∀ u ∈ news,u.oneCell'=true)
 (h63:n+m≤maxLen) (hbytes:(n+m) * bytes≤140737488355328) (hbase:base≤w.heap.size) :
 ∃ v' w',(Builtin.append_ #[t,t] ty #[v,.slice (some a) m c]).run P w=.ok v' w'∧w'.ownsRow base e size v' (n+m) (xs++news)∧w.grownBy w' v.ownBlock∧NewOr w v v':=by
 obtain ⟨v',w',hr,h2,h3,h4⟩:=run_append_own (P:=P) w base t ty e i z size bytes ht hi hz hsize hby hzs hsz v n xs hown a m c news hl hnews h1 h63 hbytes hbase;refine ⟨v',w',hr,h2,h3,?_⟩;have hown':=hown;rcases hown.2 with ⟨rfl,rfl⟩ | ⟨g,cap,cur,rfl,hbg,hg,hnc,hcm,hcs,htake⟩
 ·have hx:xs=[]:=List.eq_nil_of_length_eq_zero (by simpa using hown.1)
  subst hx;obtain ⟨v2,w2,hr2,h22,_,_⟩:=run_append_own (P:=P) w w.heap.size t ty e i z size bytes ht hi hz hsize hby hzs hsz _ 0 [] (World.ownsRow_nil w w.heap.size e size) a m c news hl hnews h1 h63 hbytes (Nat.le_refl _);rw [hr] at hr2
  cases hr2
  exact fun k hk => Or.inr (h22.lt k hk).1
 ·by_cases hroom:n+m≤cap
  ·obtain ⟨w2,hr2,_,_⟩:=run_append_own_spare (P:=P) w base t ty e i size ht hi hsize g n cap xs hown' a m c news hl hnews h1 hroom
   rw [hr] at hr2
   cases hr2
   exact fun k hk => Or.inl hk
  ·have holds:∀ j u,xs[j]? = some u → w.cell? ((⟨g,0,none⟩:Addr).add j)=some u:=hown'.cells (g:=g) rfl
   have hr2:=run_append_grow (P:=P) w t ty e i z ht hi hz ⟨g,0,none⟩ n cap xs (by rw [hsize];exact hown'.1) holds a m c news (by rw [hsize];exact hl) hnews (by omega) (by unfold maxLen at h63;omega) (growslice_fits (by omega) (by rw [hby];exact hbytes))
   rw [hr] at hr2
   cases hr2
   exact fun k hk => Or.inr (by simp [Value.ownBlock] at hk;omega)
end Go.Proofs.YtnpkcneojilmkaaGreatDoor.Mem
end
section
namespace Go.Proofs.YtnpkcneojilmkaaGreatDoor.Attr
open Go.ChangeShapes Go.WideShapes Go.ChangeAt Go.RowKit Go.Shelf Base Byt Txt Rec Num Bk Hp Go.Lib
set_option linter.unusedVariables false
set_option maxRecDepth 100000
def cutC (c:UInt8) (l:List UInt8):List UInt8 × List UInt8 × Bool:=
 if 0≤Lib.indexByte l c then (l.take (Lib.indexByte l c).toNat,l.drop ((Lib.indexByte l c).toNat+1),true) else (l,[],false)
theorem cutC_len (c:UInt8) (l:List UInt8):(cutC c l).1.length≤l.length∧(cutC c l).2.1.length≤l.length:=by
 unfold cutC
 split
 ·simp only [List.length_take,List.length_drop];omega
 ·simp
theorem slCutC_any (c:UInt8) (l:List UInt8) (w:World) (hm:l.length≤140737488351232) :
 Calls Tryz.prog 141 #[.string (str l),.string ⟨#[c]⟩] w fun e w' => e=.returned (.tuple #[.string (str (cutC c l).1),.string (str (cutC c l).2.1),.bool (cutC c l).2.2]) ∧ ∃ n,w'=w.drewN n:=by
 have hidx:=Any.stringslite_Index_one Tryz.laysIndex (str l) c w;rw [str_data] at hidx;have hs:(str l).size=l.length:=str_size l;have hone:(⟨#[c]⟩:ByteArray).size=1:=rfl;unfold cutC
 by_cases h:0≤Lib.indexByte l c
 ·obtain ⟨k,hk⟩:∃ k:Nat,Lib.indexByte l c=k:=⟨(Lib.indexByte l c).toNat,by omega⟩
  have hlt:=(List.getElem?_eq_some_iff.1 (Lib.indexByte_some hk).1).1;rw [if_pos h,hk,Int.toNat_natCast];rw [hk] at hidx;clear h hk;simp only;have e1:(str l).extract 0 k=str (l.take k):=str_take l k;have e2:(str l).extract (k+1) (str l).size=str (l.drop (k+1)):=str_drop l (k+1) _ hs;rw [← e1,← e2];have c1:(0:Int)≤(k:Int):=by omega
  have c2:(k:Int)≤((str l).size:Int):=by omega
  have c3:(0:Int)≤(k:Int)+1:=by omega
  have c4:(k:Int)+1≤((str l).size:Int):=by omega
  have c5:((str l).size:Int)≤140737488351232:=by omega
  clear e1 e2;have mixed:Tryz.prog.follows .mixedOrders=true:=by kernel_rfl
  go_enter Tryz.func141,Tryz.ntmps141
  go_wp2_with (go_at_call 156;refine hidx.mono ?_;rintro e w' ⟨rfl,rfl⟩)
  go_region_o
  go_wp2
  go_ret3
  exact ⟨rfl,1,rfl⟩
 ·rw [if_neg h]
  have hn:Lib.indexByte l c = -1:=by have:=Lib.indexByte_ge l c;omega
  rw [hn] at hidx;clear h hn
  go_enter Tryz.func141,Tryz.ntmps141
  go_wp2_with (go_at_call 156;refine hidx.mono ?_;rintro e w' ⟨rfl,rfl⟩)
  go_ret3
  exact ⟨rfl,0,rfl⟩
theorem cutAt_any (c:UInt8) (l:List UInt8) (w:World) (hm:l.length≤140737488351232) :
 Calls Tryz.prog 108 #[.string (str l),.string ⟨#[c]⟩] w fun e w' => e=.returned (.tuple #[.string (str (cutC c l).1),.string (str (cutC c l).2.1),.bool (cutC c l).2.2]) ∧ ∃ n,w'=w.drewN n:=by
 have hc:=slCutC_any c l w hm
 go_enter Tryz.func108,Tryz.ntmps108
 go_wp2_with (go_at_call 141;refine hc.mono ?_;rintro e w' ⟨rfl,n,rfl⟩)
 go_ret3
 exact ⟨rfl,n,rfl⟩
theorem digits_any (l:List UInt8) (w:World) (hm:l.length≤140737488351232) :
 Calls Tryz.prog 143 #[.string (str l)] w fun e w' => e=.returned (.bool (l.all isDig))∧Below w.heap.size w w':=by
 have ht:=Any.strings_Trim_laid Tryz.laysTrim (by kernel_rfl) (str l) ⟨#[48,49,50,51,52,53,54,55,56,57]⟩ w (by rw [str_size];omega) (by decide) (ascii_of_all (by decide))
 rw [str_data] at ht
 have hb:l.all isDig=decide (trimS l [48,49,50,51,52,53,54,55,56,57]=[]):=by
  rw [Bool.eq_iff_iff];simp only [decide_eq_true_eq,List.all_eq_true];exact (trim_dig l).symm
 obtain ⟨z,hz⟩:∃ z,trimS l [48,49,50,51,52,53,54,55,56,57]=z:=⟨_,rfl⟩
 have ht:Calls Tryz.prog 158 #[.string (str l),.string ⟨#[48,49,50,51,52,53,54,55,56,57]⟩] w fun e w' => e=.returned (.string (str z))∧Below w.heap.size w w':=by
  rw [← hz];exact ht
 rw [hb,hz,← str_empty];clear hb hz
 go_enter Tryz.func143,Tryz.ntmps143
 go_wp2_with fail
 refine ht.mono ?_
 rintro e w1 ⟨rfl,hB⟩;have HB:=Lib.hid hB;clear hB ht
 go_wp2
 go_ret
 exact ⟨rfl,HB.out⟩
theorem number_any (l:List UInt8) (w:World) (hm:l.length≤140737488351232) :
 Calls Tryz.prog 113 #[.string (str l)] w fun e w' => e=.returned (wholeV (wholeD l))∧Below w.heap.size w w':=by
 have hin:=in_any (l.length:Int) 1 18 w;have hs:(str l).size=l.length:=str_size l;have hs':((str l).size:Int)=(l.length:Int):=by rw [hs]
 by_cases h:1≤l.length∧l.length≤18
 ·rw [inB_true (by omega) (by omega)] at hin
  have hd:=digits_any l w hm
  cases ha:l.all isDig with
  | false =>
    rw [ha] at hd;rw [show wholeD l=none by unfold wholeD;rw [if_neg (by omega),ha];rfl]
    clear ha h hm hs;rw [← hs'] at hin;clear hs';have HD:=Lib.hid hd;clear hd
    go_enter Tryz.func113,Tryz.ntmps113
    go_wp2_with fail
    refine hin.mono ?_
    rintro e w1 ⟨rfl,rfl⟩;clear hin
    go_wp2_with fail
    refine HD.out.mono ?_
    rintro e w1 ⟨rfl,hB⟩;have HB:=Lib.hid hB;clear hB
    go_wp2
    go_ret2
    exact ⟨rfl,HB.out⟩
  | true =>
    rw [ha] at hd;rw [show wholeD l=some (valL l) by unfold wholeD;rw [if_neg (by omega),ha];rfl]
    have hat:=fun w => Any.strconv_Atoi Tryz.laysAtoi (str l) (valL l) (by rw [hs];omega) (by rw [str_data];exact atoi_dig l (by rintro rfl;simp at h) (by simpa using ha)) w
    have mixed:Tryz.prog.follows .mixedOrders=true:=by kernel_rfl
    clear ha h hm hs;rw [← hs'] at hin;clear hs';have HD:=Lib.hid hd;have HA:=Lib.hid hat;clear hd hat;obtain ⟨n,hn⟩:∃ n:Int,(valL l:Int)=n:=⟨_,rfl⟩;rw [show wholeV (some (valL l))=.tuple #[.int .i64 n,.bool true] by rw [← hn];rfl]
    rw [hn] at HA;clear hn
    go_enter Tryz.func113,Tryz.ntmps113
    go_wp2_with fail
    refine hin.mono ?_
    rintro e w1 ⟨rfl,rfl⟩;clear hin
    go_wp2_with fail
    refine HD.out.mono ?_
    rintro e w1 ⟨rfl,hB⟩;have HB:=Lib.hid hB;clear hB
    go_wp2_with fail
    refine (HA.out w1).mono ?_
    rintro e w2 ⟨rfl,t,ht⟩;have hB2:Below w1.heap.size w1 w2:=by rw [ht];exact str_below _ _ _
    have HB2:=Lib.hid (HB.out.trans (hB2.mono HB.out.size));clear ht hB2
    go_wp2
    go_quiet_o (fail)
    go_wp2
    go_ret2
    exact ⟨rfl,below_drewN HB2.out _⟩
 ·rw [inB_false (by omega)] at hin
  rw [show wholeD l=none by unfold wholeD;rw [if_pos (by omega)]]
  clear h hm hs;rw [← hs'] at hin;clear hs'
  go_enter Tryz.func113,Tryz.ntmps113
  go_wp2_with fail
  refine hin.mono ?_
  rintro e w1 ⟨rfl,rfl⟩
  go_wp2
  go_ret2
  exact ⟨rfl,Below.refl _ _⟩
def natO (o:Option Nat):Int:=match o with
 | some n => n
 | none => 0
theorem wholeV_eq (o:Option Nat):wholeV o=.tuple #[.int .i64 (natO o),.bool o.isSome]:=by cases o<;>rfl
theorem secD_cut (l:List UInt8):secD l=if (cutC 46 l).2.1.all isDig then wholeD (cutC 46 l).1 else none:=by
 unfold secD cutC
 by_cases h:0≤Lib.indexByte l 46
 ·rw [if_pos h,if_pos h]
 ·rw [if_neg h,if_neg h]
  rfl
theorem seconds_any (l:List UInt8) (w:World) (hm:l.length≤140737488351232) :
 Calls Tryz.prog 114 #[.string (str l)] w fun e w' => e=.returned (wholeV (secD l))∧Below w.heap.size w w':=by
 have hc:=cutAt_any 46 l w hm;obtain ⟨h1,h2⟩:=cutC_len 46 l;rw [secD_cut];generalize cutC 46 l=C at hc h1 h2 ⊢;obtain ⟨a,r,b⟩:=C;simp only at hc h1 h2 ⊢;have hd:=fun w => digits_any r w (by omega)
 have hn:=fun w => number_any a w (by omega)
 clear h1 h2 hm;have HD:=Lib.hid hd;have HN:=Lib.hid hn;clear hd hn
 cases hr:r.all isDig with
 | false =>
   rw [hr] at HD;clear hr
   go_enter Tryz.func114,Tryz.ntmps114
   go_wp2_with fail
   refine hc.mono ?_
   rintro e w1 ⟨rfl,n,rfl⟩
   go_wp2_with fail
   refine (HD.out _).mono ?_
   rintro e w2 ⟨rfl,hB⟩;have HB:Hid (Below w.heap.size w w2):=Lib.hid ((below_drewN (Below.refl _ _) n).trans hB);clear hB
   go_wp2
   go_ret2
   exact ⟨rfl,HB.out⟩
 | true =>
   rw [hr] at HD;clear hr;rw [if_pos rfl,wholeV_eq];simp only [wholeV_eq] at HN;generalize natO (wholeD a)=N at HN ⊢;generalize (wholeD a).isSome=B at HN ⊢
   go_enter Tryz.func114,Tryz.ntmps114
   go_wp2_with fail
   refine hc.mono ?_
   rintro e w1 ⟨rfl,n,rfl⟩
   go_wp2_with fail
   refine (HD.out _).mono ?_
   rintro e w2 ⟨rfl,hB⟩;have HB:Hid (Below w.heap.size w w2):=Lib.hid ((below_drewN (Below.refl _ _) n).trans hB);clear hB
   go_wp2_with fail
   refine (HN.out w2).mono ?_
   rintro e w3 ⟨rfl,hB⟩;have HB3:Hid (Below w.heap.size w w3):=Lib.hid (HB.out.trans (hB.mono HB.out.size));clear hB
   go_wp2
   go_ret2
   exact ⟨rfl,HB3.out⟩
theorem text_yes1 (v:List UInt8) (hv:v≠[]) (b i:Nat) (t:TypeId) (cs:Array Value) (old:Value) (w:World) (h:Blk w b t cs) (hi:i < cs.size) (ho:cs[i]? = some old) :
 Calls Tryz.prog 110 #[.pointer (some ⟨b,i,none⟩),.string (str v)] w fun e w' => e=.returned (.tuple #[])∧w'=w.setCell ⟨b,i,none⟩ (.string (str v)):=by
 have c0:=h.cell i;rw [ho] at c0;have f0:=h.frozen i;have b1:(str v).toList.isEmpty=false:=by rw [str_empty];simpa using hv
 clear h hi ho hv
 go_enter Tryz.func110,Tryz.ntmps110
 go_wp2
 go_end0
 exact ⟨rfl,rfl⟩
theorem text_no1 (a:Option Addr) (w:World) :
 Calls Tryz.prog 110 #[.pointer a,.string ⟨#[]⟩] w fun e w' => e=.returned (.tuple #[])∧w=w':=by
 go_enter Tryz.func110,Tryz.ntmps110
 go_wp2
 go_end0
 exact ⟨rfl,rfl⟩
theorem changeText_any (v:List UInt8) (b i:Nat) (t:TypeId) (cs:Array Value) (old:List UInt8) (w:World) (h:Blk w b t cs) (hi:i < cs.size) (ho:cs[i]? = some (.string (str old))) :
 Calls Tryz.prog 110 #[.pointer (some ⟨b,i,none⟩),.string (str v)] w fun e w' => e=.returned (.tuple #[])∧Blk w' b t (cs.set i (.string (str (textD1 v old))) hi)∧Kept (oneB b) w w':=by
 by_cases hv:v=[]
 ·subst hv
  refine (text_no1 _ w).mono ?_
  rintro e w' ⟨rfl,rfl⟩;refine ⟨rfl,?_,Kept.refl _ _⟩
  have e:cs.set i (.string (str (textD1 [] old))) hi=cs:=by
   apply Array.ext (by simp)
   intro j h1 h2;rw [Array.getElem_set]
   split
   ·rename_i hij
    subst hij;rw [Array.getElem?_eq_getElem hi] at ho;exact (Option.some.inj ho).symm
   ·rfl
  rw [e];exact h
 ·refine (text_yes1 v hv b i t cs _ w h hi ho).mono ?_
  rintro e w' ⟨rfl,rfl⟩;refine ⟨rfl,?_,(Kept.refl (oneB b) _).setCell (a:=⟨b,i,none⟩) (.inr rfl) _⟩;rw [show textD1 v old=v from if_neg hv]
  exact h.set i _ hi
def readV (time:Bool):Value:=.func (.func (if time then 114 else 113)) #[] #[]
theorem num_empty (time:Bool) (a:Option Addr) (w:World) :
 Calls Tryz.prog 112 #[.pointer a,.string ⟨#[]⟩,readV time] w fun e w' => e=.returned (.bool true)∧w=w':=by
 go_enter Tryz.func112,Tryz.ntmps112
 go_wp2
 go_ret
 exact ⟨rfl,rfl⟩
def readD (time:Bool) (l:List UInt8):Option Nat:=if time then secD l else wholeD l
theorem num_read (time:Bool) (v:List UInt8) (hv:v≠[]) (hm:v.length≤140737488351232) (b i:Nat) (t:TypeId) (cs:Array Value) (old:Value) (w:World) (hb:Blk w b t cs) (hi:i < cs.size) (ho:cs[i]? = some old) (hold:∃ k,old=.int .i64 k) :
 Calls Tryz.prog 112 #[.pointer (some ⟨b,i,none⟩),.string (str v),readV time] w fun e w' => e=.returned (.bool (readD time v).isSome)∧Blk w' b t (cs.set i (.int .i64 (natO (readD time v))) hi)∧Kept (oneB b) w w':=by
 obtain ⟨k,rfl⟩:=hold;have b1:(str v).toList.isEmpty=false:=by rw [str_empty];simpa using hv
 have hs:=fun w => seconds_any v w hm
 have hn:=fun w => number_any v w hm
 have HB:=Lib.hid hb;have HO:=Lib.hid ho;clear hb ho hv hm
 cases time with
 | false =>
   rw [show readV false=.func (.func 113) #[] #[] from rfl,show readD false v=wholeD v from rfl]
   simp only [wholeV_eq] at hn;generalize natO (wholeD v)=N at hn ⊢;generalize (wholeD v).isSome=B at hn ⊢;have HN:=Lib.hid hn;clear hn hs
   go_enter Tryz.func112,Tryz.ntmps112
   go_wp2_with fail
   refine (HN.out w).mono ?_
   rintro e w1 ⟨rfl,hB⟩;have hb1:=HB.out.below hB HB.out.lt;have c0:=hb1.cell i;rw [HO.out] at c0;have f0:=hb1.frozen i;have H1:=Lib.hid (And.intro hb1 hB);clear hb1 hB
   go_wp2
   go_ret
   exact ⟨rfl,H1.out.1.set i _ hi,(Kept.of_below H1.out.2 (oneB b)).setCell (a:=⟨b,i,none⟩) (.inr rfl) _⟩
 | true =>
   rw [show readV true=.func (.func 114) #[] #[] from rfl,show readD true v=secD v from rfl]
   simp only [wholeV_eq] at hs;generalize natO (secD v)=N at hs ⊢;generalize (secD v).isSome=B at hs ⊢;have HN:=Lib.hid hs;clear hn hs
   go_enter Tryz.func112,Tryz.ntmps112
   go_wp2_with fail
   refine (HN.out w).mono ?_
   rintro e w1 ⟨rfl,hB⟩;have hb1:=HB.out.below hB HB.out.lt;have c0:=hb1.cell i;rw [HO.out] at c0;have f0:=hb1.frozen i;have H1:=Lib.hid (And.intro hb1 hB);clear hb1 hB
   go_wp2
   go_ret
   exact ⟨rfl,H1.out.1.set i _ hi,(Kept.of_below H1.out.2 (oneB b)).setCell (a:=⟨b,i,none⟩) (.inr rfl) _⟩
theorem changeNumber_any (time:Bool) (v:List UInt8) (hm:v.length≤140737488351232) (b i:Nat) (t:TypeId) (cs:Array Value) (old:Int) (w:World) (hb:Blk w b t cs) (hi:i < cs.size) (ho:cs[i]? = some (.int .i64 old)) :
 Calls Tryz.prog 112 #[.pointer (some ⟨b,i,none⟩),.string (str v),readV time] w fun e w' => e=.returned (.bool (numD1 time v old).isSome)∧Blk w' b t (cs.set i (.int .i64 ((numD1 time v old).getD 0)) hi)∧Kept (oneB b) w w':=by
 by_cases hv:v=[]
 ·subst hv
  refine (num_empty time _ w).mono ?_
  rintro e w' ⟨rfl,rfl⟩;refine ⟨rfl,?_,Kept.refl _ _⟩
  have e:cs.set i (.int .i64 ((numD1 time [] old).getD 0)) hi=cs:=by
   apply Array.ext (by simp)
   intro j h1 h2;rw [Array.getElem_set]
   split
   ·rename_i hij
    subst hij;rw [Array.getElem?_eq_getElem hi] at ho;exact (Option.some.inj ho).symm
   ·rfl
  rw [e];exact hb
 ·refine (num_read time v hv hm b i t cs _ w hb hi ho ⟨_,rfl⟩).mono ?_
  rintro e w' ⟨rfl,h1,h2⟩;have e1:numD1 time v old=Option.map Int.ofNat (readD time v):=if_neg hv;have e2:(numD1 time v old).getD 0=natO (readD time v):=by rw [e1];cases readD time v<;>rfl
  rw [e2,e1,Option.isSome_map];exact ⟨rfl,h1,h2⟩
end Go.Proofs.YtnpkcneojilmkaaGreatDoor.Attr
end
section
namespace Go.Proofs.YtnpkcneojilmkaaGreatDoor.Mem
open Go.ChangeShapes Go.WideShapes Go.ChangeAt Go.RowKit Go.Deep Base Byt Txt Bk Hp Head Rec Go.Lib
set_option linter.unusedVariables false
set_option maxRecDepth 100000
theorem list8 {α:Type} (l:List α) (h:l.length=8):∃ a b c d e f g i,l=[a,b,c,d,e,f,g,i]:=by
 match l,h with
 | [a,b,c,d,e,f,g,i],_ => exact ⟨a,b,c,d,e,f,g,i,rfl⟩
theorem list5 {α:Type} (l:List α) (h:l.length=5):∃ a b c d e,l=[a,b,c,d,e]:=by
 match l,h with
 | [a,b,c,d,e],_ => exact ⟨a,b,c,d,e,rfl⟩
theorem cells8:Tryz.prog.cellsOf 26=8:=by kernel_rfl
theorem cellsY:Tryz.prog.cellsOf 24=1:=by kernel_rfl
instance:Inhabited MP:=⟨zeroP⟩
def WfM (m:MemV):Prop:=(Lit.int .i64 m.mode).wf=true∧(Lit.int .i64 m.uid).wf=true∧(Lit.int .i64 m.gid).wf=true∧(Lit.int .i64 m.time).wf=true
def RoomM (x:MP):Prop:=x.m.path.length≤140737488351232∧x.m.target.length≤140737488351232∧x.c≤140737488351232
section
variable {H:Type} {enc:TypeId × Value → H} {w:World} {base:Nat} {held:Bool}
theorem mem_cells {cs:List Value} {d:DataW H} {ps:List MemPlace} {fuel:Nat} (hw:∀ z ∈ d.weights Tryz.prog 26,z≤reachBytes)
 (hf:DataW.trod enc Tryz.prog w base (fun _ => true) held fuel 26 cs=some (d,ps)) :
 ∃ x:MP,cs=x.cs.toList∧BodyAt w x∧WfM x.m∧RoomM x:=by
 obtain ⟨xs,n,rfl,hx,hl,hxl,hall⟩:=DataW.trod_struct Tryz.underlying26 hf;rw [cells8] at hl;obtain ⟨a,b,c,e,f,g,i,j,rfl⟩:=list8 cs hl;obtain ⟨x0,x1,x2,x3,x4,rfl⟩:=list5 xs (by simpa using hxl)
 have h0:=hall 0 _ rfl;have h1:=hall 1 _ rfl;have h2:=hall 2 _ rfl;have h3:=hall 3 _ rfl;have h4:=hall 4 _ rfl;simp only [List.getElem_toArray,List.getElem_cons_zero,List.getElem_cons_succ,cellsM,cellsS,cellsU,cellsY,List.drop_zero,List.drop_succ_cons,List.take_succ_cons,List.take_zero,List.getElem?_cons_zero,List.getElem?_cons_succ] at h0 h1 h2 h3 h4;obtain ⟨s0,e0,rfl,z0⟩:=DataW.trod_string Tryz.underlying9 h0;obtain ⟨s1,e1,rfl,z1⟩:=DataW.trod_string Tryz.underlying9 h1;obtain ⟨k2,e2,rfl,z2⟩:=DataW.trod_int Tryz.underlying5 h2;obtain ⟨ys,n',rfl,hy,hl',hyl,hall'⟩:=DataW.trod_struct Tryz.underlying23 h3
 obtain ⟨y0,y1,y2,y3,rfl⟩:=list4 ys (by simpa using hyl)
 have g0:=hall' 0 _ rfl;have g1:=hall' 1 _ rfl;have g2:=hall' 2 _ rfl;have g3:=hall' 3 _ rfl;simp only [List.getElem_toArray,List.getElem_cons_zero,List.getElem_cons_succ,cellsI,List.drop_zero,List.drop_succ_cons,List.take_succ_cons,List.take_zero,List.getElem?_cons_zero,List.getElem?_cons_succ] at g0 g1 g2 g3;obtain ⟨m0,f0,rfl,q0⟩:=DataW.trod_int Tryz.underlying3 g0;obtain ⟨m1,f1,rfl,q1⟩:=DataW.trod_int Tryz.underlying3 g1;obtain ⟨m2,f2,rfl,q2⟩:=DataW.trod_int Tryz.underlying3 g2;obtain ⟨m3,f3,rfl,q3⟩:=DataW.trod_int Tryz.underlying3 g3;simp only [List.cons.injEq,and_true] at e0 e1 e2 f0 f1 f2 f3
 subst e0 e1 e2 f0 f1 f2 f3;obtain ⟨k0,k1⟩:=wf8 z2;simp only [Prod.mk.injEq,List.map_cons,List.map_nil] at hx;obtain ⟨hd,_⟩:=hx
 have ew:d.weights Tryz.prog 26=DataW.weightsEach Tryz.prog [9,9,5,23,24] [.lit (.string s0.data.toList),.lit (.string s1.data.toList),.lit (.int .u8 k2),x3.1,x4.1]:=by
  rw [hd];simp only [DataW.weights,Tryz.underlying26];rfl
 have w0:=hw s0.data.toList.length (by rw [ew];simp [DataW.weightsEach,DataW.weights])
 have w1:=hw s1.data.toList.length (by rw [ew];simp [DataW.weightsEach,DataW.weights])
 have w4:∀ z ∈ x4.1.weights Tryz.prog 24,z≤reachBytes:=fun z hz => hw z (by
  rw [ew];simp only [DataW.weightsEach,List.mem_append]
  exact .inr (.inr (.inr (.inr (.inl hz)))))
 have ek:((UInt8.ofNat k2.toNat).toNat:Int)=k2:=by rw [UInt8.toNat_ofNat'];omega
 simp only [reachBytes] at w0 w1;rcases open_ints Tryz.underlying24 Tryz.underlying5 cellsU h4 with ⟨hcs,_⟩ | ⟨x,l,cp,zs,hcs,_,hlc,hmx,hz,hxx,hcell,hwz⟩
 ·simp only [List.cons.injEq,and_true] at hcs
  subst hcs;refine ⟨⟨⟨s0.data.toList,s1.data.toList,UInt8.ofNat k2.toNat,m0,m1,m2,m3,[]⟩,none,0⟩,?_,⟨fun h0 => by simp at h0,Nat.le_refl _,by show (0:Nat)≤maxLen;decide⟩,⟨q0,q1,q2,q3⟩,by omega,by omega,by show 0≤_;omega⟩
  rw [MP.cs_list,str_of,str_of,ek];rfl
 ·simp only [List.cons.injEq,and_true] at hcs
  subst hcs;simp only [if_true] at hz;have hrow:IsRow .u8 w (some x) l cp zs:=.inr ⟨_,rfl,hlc,hmx,hz,fun i hi => hcell i hi,hwz⟩
  obtain ⟨b1,b2,b3,b4⟩:=bat_of_row hrow
  have wc:=w4 (cp * 1) (by
   rw [hxx];simp only [DataW.weights,Tryz.underlying24,List.mem_cons,List.mem_append,lits,List.length_map,List.length_take,List.length_drop];refine .inl ?_
   rw [(by kernel_rfl:Tryz.prog.bytesOf 5=1)]
   congr 1
   omega)
  simp only [reachBytes] at wc;refine ⟨⟨⟨s0.data.toList,s1.data.toList,UInt8.ofNat k2.toNat,m0,m1,m2,m3,bytesOf (zs.take l)⟩,some x,cp⟩,?_,⟨?_,?_,hmx⟩,⟨q0,q1,q2,q3⟩,by omega,by omega,by show cp≤_;omega⟩
  ·rw [MP.cs_list,str_of,str_of,ek]
   simp only [b2]
  ·show BAt w (some x) (bytesOf (zs.take l)).length (bytesOf (zs.take l))
   rw [b2];exact b1
  ·show (bytesOf (zs.take l)).length≤cp
   rw [b2];exact hlc
theorem mem_open {v:Value} {d:DataW H} {ps:List MemPlace} {ts:List TypeId} {ds:List (DataW H)} (hz:(DataW.weightsEach Tryz.prog ts ds).all (· ≤ reachBytes)=true) {j:Nat} (ht:ts[j]? = some 26) (hd:ds[j]? = some d)
 (h:DataW.Trod enc Tryz.prog w base (fun _ => true) held 26 v d ps) :
 ∃ x:MP,v=.agg x.cs∧BodyAt w x∧WfM x.m∧RoomM x:=by
 obtain ⟨fuel,hf⟩:=h;have hw:=List.all_eq_true.1 hz;obtain ⟨x,h1,h2⟩:=mem_cells (fun z hzz => of_decide_eq_true (hw _ (DataW.weights_mem_each ht hd _ hzz))) hf
 refine ⟨x,?_,h2⟩
 obtain ⟨cs,rfl⟩:∃ cs,v=.agg cs:=by
  have hl:=congrArg List.length h1;rw [MP.cs_list] at hl
  cases v<;>first | exact ⟨_,rfl⟩ | (simp [Value.cells] at hl)
 congr 1
 apply Array.toList_inj.1;exact h1
end
end Go.Proofs.YtnpkcneojilmkaaGreatDoor.Mem
end
