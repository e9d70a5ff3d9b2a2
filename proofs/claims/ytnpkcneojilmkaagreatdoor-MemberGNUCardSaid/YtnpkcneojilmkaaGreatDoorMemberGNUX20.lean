/- Texts of this seat, merged: what the proof reaches. -/
import Derived.Test.YtnpkcneojilmkaaGreatDoorMemberGNUX16
import Derived.Deep.AppendLies
import Derived.Lib.SlBytesConst
section
namespace Go.Proofs.YtnpkcneojilmkaaGreatDoor.Field
open Go.ChangeShapes Go.WideShapes Go.ChangeAt Go.RowKit Base Num Fp Byt
set_option linter.unusedVariables false
theorem infoByte:(Tryz.prog.info? 5).map (fun i => (i.zero,i.size,i.bytes))=some (some (.int .u8 0),1,1):=by kernel_rfl
def lie (j:Nat) (tl:List Int):List Value:=(List.replicate j (0:Int)++tl).map (Value.int .u8)
theorem lie_set (j:Nat) (tl:List Int) (x:Int):(lie (j+1) tl).set j (.int .u8 x)=lie j (x :: tl):=by
 unfold lie;rw [← List.map_set,List.set_append_left _ _ (by simp)]
 congr 1
 rw [List.replicate_succ',List.set_append_right _ _ (by simp)]
 simp
theorem lie_get (j k:Nat) (tl:List Int) (h:k < j):(lie j tl)[k]? = some (.int .u8 0):=by
 unfold lie;rw [List.getElem?_map,List.getElem?_append_left (by simpa using h),List.getElem?_replicate,if_pos h]
 rfl
theorem lie_made (n:Nat):(madeCells #[Value.int .u8 0] n).toList=lie n []:=by
 rw [toList_madeCells_one,lie,List.append_nil,List.map_replicate]
def LieRow (w0 wr:World) (count j:Nat) (tl:List Int):Prop:=
 wr.ownsRow w0.heap.size 5 1 (.slice (some ⟨w0.heap.size,0,none⟩) count count) count (lie j tl)∧Below w0.heap.size w0 wr
theorem LieRow.cell {w0 wr:World} {count j:Nat} {tl:List Int} (h:LieRow w0 wr count j tl) (k:Nat) (hk:k < j) (hj:j≤count):wr.cell? ⟨w0.heap.size,k,none⟩=some (.int .u8 0):=by
 rw [h.1.cellAt k (by omega),lie_get j k tl hk]
theorem LieRow.frozen {w0 wr:World} {count j:Nat} {tl:List Int} (h:LieRow w0 wr count j tl) (k:Nat):wr.frozen? ⟨w0.heap.size,k,none⟩=false:=h.1.frozenAt k
theorem LieRow.store {w0 wr:World} {count j:Nat} {tl:List Int} (h:LieRow w0 wr count (j+1) tl) (x:Int):LieRow w0 (wr.setCell ⟨w0.heap.size,j,none⟩ (.int .u8 x)) count j (x :: tl):=by
 have:=(h.1.stored j (.int .u8 x)).1;rw [lie_set] at this;exact ⟨this,h.2.setCell (by simp) _⟩
theorem LieRow.ints {w0 wr:World} {count:Nat} {tl:List Int} (h:LieRow w0 wr count 0 tl):wr.ownsRow w0.heap.size 5 1 (.slice (some ⟨w0.heap.size,0,none⟩) count count) count (tl.map (Value.int .u8)):=h.1
def DigPost (w:World) (base zero n:Int) (count:Nat) (e:Ending) (w':World):Prop:=
 (restD base count n=0∧e=.returned (.tuple #[.slice (some ⟨w.heap.size,0,none⟩) count count,.bool true])∧LieRow w w' count 0 (putD base zero count n)) ∨
 (restD base count n≠0∧e=.returned (.tuple #[.slice none 0 0,.bool false])∧Below w.heap.size w w')
set_option maxHeartbeats 1000000 in
theorem digits_any (n base zero:Int) (count:Nat) (w:World) (hb:(base=8∧zero=48) ∨ (base=256∧zero=0)) (h0:0≤n) (h1:n≤4611686018427387904) (hc1:1≤count) (hc2:count≤99) :
 Calls Tryz.prog 147 #[.int .i64 n,.int .i64 base,.int .u8 zero,.int .i64 count] w (DigPost w base zero n count):=by
 obtain ⟨i0,hi,hz0,hz1,hz2⟩:=info_parts infoByte;have HI:=Lib.hid hi;have HZ0:=Lib.hid hz0;have HZ1:=Lib.hid hz1;have HZ2:=Lib.hid hz2;clear hi hz0 hz1 hz2;rcases hb with ⟨rfl,rfl⟩ | ⟨rfl,rfl⟩
 ·go_enter Tryz.func147,Tryz.ntmps147
  go_wp2_with (at_make;refine wpList_make_full _ rfl _ _ 24 rfl w.heap.size 5 i0 (.int .u8 0) 1 Tryz.underlying24 HI.out HZ0.out HZ1.out .i64 .i64 _ _ count rfl rfl rfl rfl (by rw [HZ2.out];omega) (by unfold maxLen;omega) (Nat.le_refl _) ?_)
  intro w1 hown hgrow;have HR:LieRow w w1 count count []:=⟨by rw [← lie_made];exact hown,(Below.refl _ _).grown hgrow (Nat.le_refl _) (by intro k hk;cases hk)⟩
  clear hown hgrow;have HRH:=Lib.hid HR;clear HR
  go_wp2
  go_loopw [0,11] (fun s i wr => ∃ (j:Nat) (m:Int) (tl:List Int),j≤count∧0≤m∧m≤4611686018427387904∧i=.int .i64 ((j:Int) - 1)∧s=.int .i64 m∧Hid (putD 8 48 j m++tl=putD 8 48 count n∧restD 8 j m=restD 8 count n)∧Hid (LieRow w wr count j tl)) (fun _ i _ => (RowKit.intOf i+1).toNat)
  case atStart => exact ⟨count,n,[],Nat.le_refl _,h0,h1,rfl,rfl,Lib.hid ⟨List.append_nil _,rfl⟩,HRH⟩
  case round =>
   obtain ⟨j,m,tl,hj,hm0,hm1,rfl,rfl,hr,hl⟩:=hrel
   by_cases hlt:0 < j
   ·obtain ⟨j',rfl⟩:∃ j',j=j'+1:=⟨j - 1,by omega⟩
    have hcell:=hl.out.cell j' (by omega) hj
    have hfz:=hl.out.frozen j'
    go_wp2_with fail
    go_roundw
    case rel => exact ⟨j',m / 8,(48+m % 8) :: tl,by omega,by omega,by omega,rfl,rfl,Lib.hid ⟨by rw [← hr.out.1,putD,List.append_assoc];rfl,hr.out.2⟩,Lib.hid (hl.out.store _)⟩
    case measure => simp [RowKit.intOf]
   ·obtain rfl:j=0:=by omega
    have hrest:=hr.out.2;have hput:=hr.out.1;have hrow:=hl.out;rw [show putD 8 48 0 m=[] from rfl,List.nil_append] at hput
    rw [show restD 8 0 m=m from rfl] at hrest
    have HRE:=Lib.hid hrest;have HPU:=Lib.hid hput;have HRW:=Lib.hid hrow;clear hrest hput hrow hr hl
    by_cases hm:0 < m
    ·go_wp2_with fail
     go_ret2
     exact Or.inr ⟨by rw [← HRE.out];omega,rfl,HRW.out.2⟩
    ·go_wp2_with fail
     go_ret2
     exact Or.inl ⟨by rw [← HRE.out];omega,rfl,by rw [← HPU.out];exact HRW.out⟩
 ·go_enter Tryz.func147,Tryz.ntmps147
  go_wp2_with (at_make;refine wpList_make_full _ rfl _ _ 24 rfl w.heap.size 5 i0 (.int .u8 0) 1 Tryz.underlying24 HI.out HZ0.out HZ1.out .i64 .i64 _ _ count rfl rfl rfl rfl (by rw [HZ2.out];omega) (by unfold maxLen;omega) (Nat.le_refl _) ?_)
  intro w1 hown hgrow;have HR:LieRow w w1 count count []:=⟨by rw [← lie_made];exact hown,(Below.refl _ _).grown hgrow (Nat.le_refl _) (by intro k hk;cases hk)⟩
  clear hown hgrow;have HRH:=Lib.hid HR;clear HR
  go_wp2
  go_loopw [0,11] (fun s i wr => ∃ (j:Nat) (m:Int) (tl:List Int),j≤count∧0≤m∧m≤4611686018427387904∧i=.int .i64 ((j:Int) - 1)∧s=.int .i64 m∧Hid (putD 256 0 j m++tl=putD 256 0 count n∧restD 256 j m=restD 256 count n)∧Hid (LieRow w wr count j tl)) (fun _ i _ => (RowKit.intOf i+1).toNat)
  case atStart => exact ⟨count,n,[],Nat.le_refl _,h0,h1,rfl,rfl,Lib.hid ⟨List.append_nil _,rfl⟩,HRH⟩
  case round =>
   obtain ⟨j,m,tl,hj,hm0,hm1,rfl,rfl,hr,hl⟩:=hrel
   by_cases hlt:0 < j
   ·obtain ⟨j',rfl⟩:∃ j',j=j'+1:=⟨j - 1,by omega⟩
    have hcell:=hl.out.cell j' (by omega) hj
    have hfz:=hl.out.frozen j'
    go_wp2_with fail
    go_roundw
    case rel => exact ⟨j',m / 256,(0+m % 256) :: tl,by omega,by omega,by omega,rfl,rfl,Lib.hid ⟨by rw [← hr.out.1,putD,List.append_assoc];rfl,hr.out.2⟩,Lib.hid (by have:=hl.out.store (0+m % 256);simpa using this)⟩
    case measure => simp [RowKit.intOf]
   ·obtain rfl:j=0:=by omega
    have hrest:=hr.out.2;have hput:=hr.out.1;have hrow:=hl.out;rw [show putD 256 0 0 m=[] from rfl,List.nil_append] at hput
    rw [show restD 256 0 m=m from rfl] at hrest
    have HRE:=Lib.hid hrest;have HPU:=Lib.hid hput;have HRW:=Lib.hid hrow;clear hrest hput hrow hr hl
    by_cases hm:0 < m
    ·go_wp2_with fail
     go_ret2
     exact Or.inr ⟨by rw [← HRE.out];omega,rfl,HRW.out.2⟩
    ·go_wp2_with fail
     go_ret2
     exact Or.inl ⟨by rw [← HRE.out];omega,rfl,by rw [← HPU.out];exact HRW.out⟩
def PutPost (w:World) (r:Option (List Int)) (e:Ending) (w':World):Prop:=
 Below w.heap.size w w' ∧
 ((∃ l v,r=some l∧e=.returned (.tuple #[v,.bool true])∧w'.ownsRow w.heap.size 5 1 v l.length (l.map (Value.int .u8))) ∨
  (r=none∧e=.returned (.tuple #[.slice none 0 0,.bool false])))
end Go.Proofs.YtnpkcneojilmkaaGreatDoor.Field
end
section
namespace Go.Proofs.YtnpkcneojilmkaaGreatDoor.Field
open Go.ChangeShapes Go.WideShapes Go.ChangeAt Go.RowKit Base Num Fp Byt
set_option linter.unusedVariables false
set_option maxRecDepth 100000
def PreRow (w0 wr:World) (count j:Nat) (tl:List Int):Prop:=
 ∃ pre:List Int,pre.length=j∧wr.ownsRow w0.heap.size 5 1 (.slice (some ⟨w0.heap.size,0,none⟩) count count) count ((pre++tl).map (Value.int .u8))∧Below w0.heap.size w0 wr
theorem PreRow.cell {w0 wr:World} {count j:Nat} {tl:List Int} (h:PreRow w0 wr count j tl) (k:Nat) (hk:k < j) (hj:j≤count):∃ v,wr.cell? ⟨w0.heap.size,k,none⟩=some v:=by
 obtain ⟨pre,hp,h,_⟩:=h;rw [h.cellAt k (by omega),List.getElem?_map,List.getElem?_append_left (by omega),List.getElem?_eq_getElem (by omega)]
 exact ⟨_,rfl⟩
theorem PreRow.frozen {w0 wr:World} {count j:Nat} {tl:List Int} (h:PreRow w0 wr count j tl) (k:Nat):wr.frozen? ⟨w0.heap.size,k,none⟩=false:=by
 obtain ⟨pre,hp,h,_⟩:=h;exact h.frozenAt k
theorem PreRow.store {w0 wr:World} {count j:Nat} {tl:List Int} (h:PreRow w0 wr count (j+1) tl) (x:Int):PreRow w0 (wr.setCell ⟨w0.heap.size,j,none⟩ (.int .u8 x)) count j (x :: tl):=by
 obtain ⟨pre,hp,h,hb⟩:=h;refine ⟨pre.take j,by rw [List.length_take];omega,?_,hb.setCell (by simp) _⟩
 have:=(h.stored j (.int .u8 x)).1;rw [← List.map_set] at this
 rw [show pre.take j++x :: tl=(pre++tl).set j x by
  rw [List.set_append_left _ _ (by omega)]
  have e:pre=pre.take j++[pre.getD j 0]:=by
   have hj:j < pre.length:=by omega
   have:=List.take_succ_eq_append_getElem hj;rw [show j+1=pre.length by omega,List.take_length] at this
   simpa [List.getD,hj] using this
  conv => rhs;rw [e]
  rw [List.set_append_right _ _ (by rw [List.length_take];omega)]
  rw [List.length_take,show j - min j pre.length=0 by omega]
  simp]
 exact this
theorem PreRow.ints {w0 wr:World} {count:Nat} {tl:List Int} (h:PreRow w0 wr count 0 tl):wr.ownsRow w0.heap.size 5 1 (.slice (some ⟨w0.heap.size,0,none⟩) count count) count (tl.map (Value.int .u8))∧Below w0.heap.size w0 wr:=by
 obtain ⟨pre,hp,h,hb⟩:=h;obtain rfl:pre=[]:=List.eq_nil_of_length_eq_zero hp;exact ⟨h,hb⟩
theorem LieRow.pre {w0 wr:World} {count:Nat} {tl:List Int} (h:LieRow w0 wr count 0 tl):PreRow w0 wr count count []:=by
 have hl:tl.length=count:=by have:=h.1.1;simpa [lie] using this
 exact ⟨tl,hl,by rw [List.append_nil];exact h.1,h.2⟩
set_option maxHeartbeats 1000000 in
theorem rput_any (n wide:Int) (w:World) (w0:(Lit.int .i64 n).wf=true) (w1:(Lit.int .i64 wide).wf=true) :
 Calls Tryz.prog 29 #[.int .i64 n,.int .i64 wide] w (PutPost w (putF n wide)):=by
 obtain ⟨hn1,hn2⟩:=wf64 w0;obtain ⟨hw1,hw2⟩:=wf64 w1;clear w0 w1
 by_cases hn:0≤n∧n≤4611686018427387904
 ·obtain ⟨h0,h1⟩:=hn
  by_cases hw:2≤wide∧wide≤100
  ·obtain ⟨c,rfl⟩:∃ c:Nat,wide=(c:Int)+1:=⟨(wide - 1).toNat,by omega⟩
   have hc:1≤c∧c≤99:=by omega
   obtain ⟨hc1,hc2⟩:=hc;clear hw hw1 hw2 hn1 hn2
   have EP:Hid (putF n ((c:Int)+1)=if restD 8 c n=0 then some (putD 8 48 c n++[0]) else if restD 256 c n=0 then some (128 :: putD 256 0 c n) else none):=Lib.hid (by
    rw [putF,if_pos ⟨h0,h1,by omega,by omega⟩,show ((c:Int)+1 - 1).toNat=c by omega])
   obtain ⟨i0,hi,hz0,hz1,hz2⟩:=info_parts infoByte;have HI:=Lib.hid hi;have HZ0:=Lib.hid hz0;have HZ1:=Lib.hid hz1;have HZ2:=Lib.hid hz2;clear hi hz0 hz1 hz2
   go_enter Tryz.func29,Tryz.ntmps29
   go_wp2_with (first | (go_at_call 47;refine (may_yes _ _ (by omega) (by omega)).mono ?_;rintro e w' ⟨rfl,rfl⟩) | (at_make;refine wpList_make_full _ rfl _ _ 24 rfl w.heap.size 5 i0 (.int .u8 0) 1 Tryz.underlying24 HI.out HZ0.out HZ1.out .i64 .i64 ((c:Int)+1) ((c:Int)+1) (c+1) rfl rfl (by omega) (by omega) (by rw [HZ2.out];omega) (by unfold maxLen;omega) (Nat.le_refl _) ?_))
   intro w1 hown hgrow;have HR:LieRow w w1 (c+1) (c+1) []:=⟨by rw [← lie_made];exact hown,(Below.refl _ _).grown hgrow (Nat.le_refl _) (by intro k hk;cases hk)⟩
   clear hown hgrow
   have HRH:=Lib.hid (show LieRow w w1 (c+1) c [0] from ⟨by
    have:=HR.1;rw [show lie (c+1) []=lie c [0] by unfold lie;rw [List.append_nil,List.replicate_succ']] at this
    exact this,HR.2⟩)
   clear HR
   go_wp2
   go_loopw [7,8] (fun s i wr => ∃ (j:Nat) (m:Int) (tl:List Int),j≤c∧0≤m∧m≤4611686018427387904∧i=.int .i64 ((j:Int) - 1)∧s=.int .i64 m∧Hid (putD 8 48 j m++tl=putD 8 48 c n∧restD 8 j m=restD 8 c n)∧Hid (LieRow w wr (c+1) j (tl++[0]))) (fun _ i _ => (RowKit.intOf i+1).toNat)
   case atStart => exact ⟨c,n,[],Nat.le_refl _,h0,h1,by go_num,rfl,Lib.hid ⟨List.append_nil _,rfl⟩,HRH⟩
   case round =>
    obtain ⟨j,m,tl,hj,hm0,hm1,rfl,rfl,hr,hl⟩:=hrel
    by_cases hlt:0 < j
    ·obtain ⟨j',rfl⟩:∃ j',j=j'+1:=⟨j - 1,by omega⟩
     have hcell:=hl.out.cell j' (by omega) (by omega)
     have hfz:=hl.out.frozen j'
     go_wp2_with fail
     go_roundw
     case rel => exact ⟨j',m / 8,(48+m % 8) :: tl,by omega,by omega,by omega,rfl,rfl,Lib.hid ⟨by rw [← hr.out.1,putD,List.append_assoc];rfl,hr.out.2⟩,Lib.hid (hl.out.store _)⟩
     case measure => simp [RowKit.intOf]
    ·obtain rfl:j=0:=by omega
     have hrest:=hr.out.2;have hput:=hr.out.1;have hrow:=hl.out;rw [show putD 8 48 0 m=[] from rfl,List.nil_append] at hput
     rw [show restD 8 0 m=m from rfl] at hrest
     have HRE:=Lib.hid hrest;have HPU:=Lib.hid hput;have HRW:=Lib.hid hrow;clear hrest hput hrow hr hl
     by_cases hm:m=0
     ·have hmb:(m == 0)=true:=by simpa using hm
      have EQ:Hid (putF n ((c:Int)+1)=some (putD 8 48 c n++[0])):=Lib.hid (by rw [EP.out,if_pos (by rw [← HRE.out];exact hm)])
      clear hm
      go_wp2_with fail
      go_ret2
      refine ⟨HRW.out.2,Or.inl ⟨_,_,EQ.out,rfl,?_⟩⟩;have:=HRW.out.ints;rw [HPU.out] at this;rw [List.length_append,putD_length];exact this
     ·have hmb:(m == 0)=false:=by simpa using hm
      have hm':Hid (¬ restD 8 c n=0):=Lib.hid (by rw [← HRE.out];exact hm)
      have HP:=Lib.hid HRW.out.pre;clear hm
      go_wp2_with fail
      go_loopw [7,9] (fun s i wr => ∃ (j:Nat) (m:Int) (tl:List Int),j≤c∧0≤m∧m≤4611686018427387904∧i=.int .i64 (j:Int)∧s=.int .i64 m∧Hid (putD 256 0 j m++tl=putD 256 0 c n∧restD 256 j m=restD 256 c n)∧Hid (PreRow w wr (c+1) (j+1) tl)) (fun _ i _ => (RowKit.intOf i).toNat)
      case atStart => exact ⟨c,n,[],Nat.le_refl _,h0,h1,by go_num,rfl,Lib.hid ⟨List.append_nil _,rfl⟩,HP⟩
      case round =>
       obtain ⟨j,m2,tl2,hj,hm0,hm1,rfl,rfl,hr,hl⟩:=hrel
       by_cases hlt2:0 < j
       ·obtain ⟨v,hcell⟩:=hl.out.cell j (by omega) (by omega)
        have hfz:=hl.out.frozen j
        go_wp2_with fail
        go_roundw
        case rel => exact ⟨j - 1,m2 / 256,m2 % 256 :: tl2,by omega,by omega,by omega,by go_num,rfl,Lib.hid (by
         obtain ⟨j',rfl⟩:∃ j',j=j'+1:=⟨j - 1,by omega⟩
         have:=hr.out;rw [putD,List.append_assoc,Int.zero_add] at this;exact this),Lib.hid (by
         obtain ⟨j',rfl⟩:∃ j',j=j'+1:=⟨j - 1,by omega⟩
         exact hl.out.store _)⟩
        case measure => simp [RowKit.intOf];omega
       ·obtain rfl:j=0:=by omega
        have hrest:=hr.out.2;have hput:=hr.out.1;have hrow:=hl.out;rw [show putD 256 0 0 m2=[] from rfl,List.nil_append] at hput
        rw [show restD 256 0 m2=m2 from rfl] at hrest
        obtain ⟨v,hcell⟩:=hrow.cell 0 (by omega) (by omega)
        have hfz:=hrow.frozen 0;have HRE2:=Lib.hid hrest;have HPU2:=Lib.hid hput;have HRW2:=Lib.hid (hrow.store 128).ints;clear hrest hput hrow hr hl
        by_cases hm2:0 < m2
        ·have EQ:Hid (putF n ((c:Int)+1)=none):=Lib.hid (by rw [EP.out,if_neg hm'.out,if_neg (by rw [← HRE2.out];omega)])
         go_wp2_with fail
         go_ret2
         exact ⟨HRW2.out.2,Or.inr ⟨EQ.out,rfl⟩⟩
        ·have EQ:Hid (putF n ((c:Int)+1)=some (128 :: putD 256 0 c n)):=Lib.hid (by rw [EP.out,if_neg hm'.out,if_pos (by rw [← HRE2.out];omega)])
         go_wp2_with fail
         go_ret2
         refine ⟨HRW2.out.2,Or.inl ⟨_,_,EQ.out,rfl,?_⟩⟩;have:=HRW2.out.1;rw [HPU2.out] at this;rw [List.length_cons,putD_length];exact this
  ·have EQ:Hid (putF n wide=none):=Lib.hid (by rw [putF,if_neg (by omega)])
   by_cases hw3:wide < 2
   ·go_enter Tryz.func29,Tryz.ntmps29
    go_wp2_with (go_at_call 47;refine (may_yes _ _ (by omega) (by omega)).mono ?_;rintro e w' ⟨rfl,rfl⟩)
    go_ret2
    exact ⟨Below.refl _ _,Or.inr ⟨EQ.out,rfl⟩⟩
   ·have hw4:100 < wide:=by omega
    go_enter Tryz.func29,Tryz.ntmps29
    go_wp2_with (go_at_call 47;refine (may_yes _ _ (by omega) (by omega)).mono ?_;rintro e w' ⟨rfl,rfl⟩)
    go_ret2
    exact ⟨Below.refl _ _,Or.inr ⟨EQ.out,rfl⟩⟩
 ·have EQ:Hid (putF n wide=none):=Lib.hid (by rw [putF,if_neg (by omega)])
  go_enter Tryz.func29,Tryz.ntmps29
  go_wp2_with (go_at_call 47;refine (may_no _ _ hn).mono ?_;rintro e w' ⟨rfl,rfl⟩)
  go_ret2
  exact ⟨Below.refl _ _,Or.inr ⟨EQ.out,rfl⟩⟩
end Go.Proofs.YtnpkcneojilmkaaGreatDoor.Field
end
section
namespace Go.Proofs.YtnpkcneojilmkaaGreatDoor.Field
open Go.ChangeShapes Go.WideShapes Go.ChangeAt Go.RowKit Base Num Fp Byt
set_option linter.unusedVariables false
open Go.Lib (bytesOf)
theorem vI_some (x:Int):valI (some x)=x:=rfl
theorem oI_some (x:Int):okI (some x)=true:=rfl
theorem vI_none:valI none=0:=rfl
theorem oI_none:okI none=false:=rfl
end Go.Proofs.YtnpkcneojilmkaaGreatDoor.Field
end
