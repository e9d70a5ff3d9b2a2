/- Texts of this seat, merged: what the proof reaches. -/
import Derived.RangeFuncNested
import Derived.RangeFuncBound
import Derived.RangeFuncCalls
import Derived.RangeFuncLeaves
import Derived.Shelf.Abstract
import Derived.Shelf.RegionOpen
import Derived.WalkKit
import Derived.OwnWalkIn
import Derived.TacticsInMore
import Derived.LoopNIn
import Derived.LoopIn
import Derived.Test.YtnpkcneojilmkaaGreatDoorMemberGNUX24
import Derived.Test.YtnpkcneojilmkaaGreatDoorMemberGNUX23
import Derived.Test.YtnpkcneojilmkaaGreatDoorMemberGNUX28
import Derived.Test.YtnpkcneojilmkaaGreatDoorMemberGNUX13
import Derived.StillTailTactics
import Derived.WalkSpells
import Derived.Test.YtnpkcneojilmkaaGreatDoorMemberGNUX17
import Derived.Test.YtnpkcneojilmkaaGreatDoorMemberGNUX11
import Derived.Laws.ResultCell
section
namespace Go.Proofs.YtnpkcneojilmkaaGreatDoor.Attr
open Go.ChangeShapes Go.WideShapes Go.ChangeAt Go.RowKit Go.Shelf Base Byt Txt Rec Bk Go.Lib
set_option linter.unusedVariables false
set_option maxRecDepth 100000
attribute [local go_sem] Oper.semAt_some
abbrev RecI:=Nat × (List UInt8 × List UInt8)
def encI (x:RecI):Array Value:=#[.int .i64 (x.1:Int),.agg #[.string (str x.2.1),.string (str x.2.2)]]
def backTo (rs:RecL) (m:Nat):List RecI:=(List.range m).map fun t => (rs.length - 1 - t,rs.getD (rs.length - 1 - t) ([],[]))
theorem backTo_succ (rs:RecL) (m:Nat):backTo rs (m+1)=backTo rs m++[(rs.length - 1 - m,rs.getD (rs.length - 1 - m) ([],[]))]:=by simp [backTo,List.range_succ]
theorem backTo_length (rs:RecL) (m:Nat):(backTo rs m).length=m:=by simp [backTo]
theorem backTo_all (rs:RecL):(backTo rs rs.length).map (·.2)=rs.reverse:=by
 apply List.ext_getElem
 ·simp [backTo]
 ·intro i h1 h2
  have hi:i < rs.length:=by simpa using h2
  simp [backTo,List.getD,show rs.length - 1 - i < rs.length by omega]
theorem backTo_pre (rs:RecL) (m:Nat) (hm:m≤rs.length):backTo rs m <+: backTo rs rs.length:=by
 refine ⟨(backTo rs rs.length).drop m,?_⟩
 have:backTo rs m=(backTo rs rs.length).take m:=by
  simp [backTo,← List.map_take,List.take_range,Nat.min_eq_left hm]
 rw [this,List.take_append_drop]
set_option maxHeartbeats 1000000 in
theorem back_in (F:Fence) (n:Nat) (hF:F=Fence.wide) (hn:1≤n) (l Bs n₀:Nat) (p:Option Addr) (c:Nat) (rs:RecL) (hreach:rs.length≤4611686018427387904) (J Jx:List RecI → World → Prop)
 (hY:∀ pre x W,J pre W → pre.length < rs.length → YieldAt F (n - 1) Tryz.prog l (encI x) W fun e W' =>
  (e=.returned (.bool true)∧J (pre++[x]) W'∧Below n₀ W W') ∨ (e=.returned (.bool false)∧Jx (pre++[x]) W'))
 (W:World) (hBn:Bs < n₀) (hBs:W.cell? ⟨Bs,0,none⟩=some (.slice p rs.length c))
 (hR:0 < rs.length → ∃ b o,p=some ⟨b,o,none⟩∧b < n₀ ∧ ∀ i,i < rs.length → W.cell? ⟨b,o+2 * i,none⟩=some (.string (str (rs.getD i ([],[])).1))∧W.cell? ⟨b,o+2 * i+1,none⟩=some (.string (str (rs.getD i ([],[])).2))) (h0:J [] W) :
 CallsIn F n Tryz.prog 171 #[.func (.yield l) #[] #[],.pointer (some ⟨Bs,0,none⟩)] W fun e W' => (∃ v,e=.returned v) ∧
  ((∃ ys,ys=backTo rs rs.length∧J ys W') ∨ (∃ pre,pre <+: backTo rs rs.length∧Jx pre W')):=by
 subst hF;obtain ⟨N,hN⟩:∃ N,rs.length=N:=⟨_,rfl⟩;rw [hN] at hBs hreach;refine callsIn_of_wp Tryz.func171 rfl trivial ?_ rfl;simp only [Tryz.ntmps171,List.size_toArray,List.length_cons,List.length_nil,Nat.reduceAdd,Nat.reduceSub,Array.replicate_succ,Array.replicate_zero,List.push_toArray,List.append_toArray,List.nil_append,List.cons_append]
 gi_wp2
 gi_loopw [3] (fun i wr => ∃ k:Nat,k≤N∧i=.int .i64 ((k:Int) - 1)∧J (backTo rs (N - k)) wr∧Below n₀ W wr)
  (fun i _ => (RowKit.intOf i+1).toNat)
 case atStart => exact ⟨N,Nat.le_refl _,rfl,by rw [Nat.sub_self];exact h0,Below.refl _ _⟩
 case round =>
  obtain ⟨k,hk,rfl,hJs,hnx⟩:=hrel
  cases k with
  | zero =>
    have hJ':J (backTo rs rs.length) wr:=by rw [hN];exact hJs
    clear hJs hY
    gi_wp2
    go_end0
    exact ⟨⟨_,rfl⟩,.inl ⟨_,rfl,hJ'⟩⟩
  | succ j =>
    rw [show (((j+1:Nat):Int) - 1)=(j:Int) by omega]
    obtain ⟨b,o,rfl,hb,hc⟩:=hR (by omega)
    obtain ⟨c0,c1⟩:=hc j (by omega)
    have hcb:=(hnx.cell (p:=⟨Bs,0,none⟩) hBn).trans hBs;have d0:=(hnx.cell (p:=⟨b,o+2 * j,none⟩) hb).trans c0;have d1:=(hnx.cell (p:=⟨b,o+2 * j+1,none⟩) hb).trans c1;rw [Nat.mul_comm] at d0 d1;obtain ⟨r,hr⟩:∃ r,rs.getD j ([],[])=r:=⟨_,rfl⟩;rw [hr] at d0 d1
    have hs:backTo rs (N - j)=backTo rs (N - (j+1))++[(j,r)]:=by
     have:N - j=N - (j+1)+1:=by omega
     rw [this,backTo_succ,show rs.length - 1 - (N - (j+1))=j by omega,hr]
    obtain ⟨fn,tmps,assign,body,hy,hR'⟩:=hY (backTo rs (N - (j+1))) (j,r) wr hJs (by rw [backTo_length];omega)
    simp only [encI] at hy;have HS:=Lib.hid hs;have hp2:=backTo_pre rs (N - j) (by omega)
    have HP:=Lib.hid hp2;rw [← hs] at hR';clear hs hY hR hJs c0 c1 hc hp2 hBs hr
    gi_wp2
    refine hR'.mono ?_
    rintro e W3 (⟨rfl,hJ3,hk3⟩ | ⟨rfl,hJx3⟩)
    ·gi_wp2
     go_roundw
     case rel => exact ⟨j,by omega,rfl,hJ3,hnx.trans hk3⟩
     case measure => simp [RowKit.intOf]
    ·gi_wp2
     refine bodyPost_ret (results_none rfl _ _ _) rfl ?_
     exact ⟨⟨_,rfl⟩,.inr ⟨_,HP.out,hJx3⟩⟩
theorem back_stops (n:Nat) (hn:1≤n) (Bs:Nat) (p:Option Addr) (c:Nat) (rs:RecL) (hreach:rs.length≤4611686018427387904) (w:World) (hBn:Bs < w.heap.size) (hc:w.cell? ⟨Bs,0,none⟩=some (.slice p rs.length c)) (hR:RecsAt w p rs.length rs) :
 SeqStopsK Fence.wide n Tryz.prog 171 #[.pointer (some ⟨Bs,0,none⟩)] encI (Below w.heap.size) (fun ys => ys=backTo rs rs.length) (fun pre => pre <+: backTo rs rs.length) rs.length w:=fun l J Jx W hW _ _ hY h0 =>
 back_in Fence.wide n rfl hn l Bs w.heap.size p c rs hreach J Jx hY W hBn ((hW.cell (p:=⟨Bs,0,none⟩) hBn).trans hc)
  (fun h0 => by
   obtain ⟨b,o,hp,hb,hc⟩:=hR.2 h0
   exact ⟨b,o,hp,hb,fun i hi => ⟨(hW.cell (p:=⟨b,o+2 * i,none⟩) hb).trans (hc i hi).1,(hW.cell (p:=⟨b,o+2 * i+1,none⟩) hb).trans (hc i hi).2⟩⟩) h0
theorem backward_any (p:Option Addr) (n c:Nat) (w:World) :
 Calls Tryz.prog 157 #[.slice p n c] w fun e w' => e=.returned (.func (.func 171) #[] #[.pointer (some ⟨w.heap.size,0,none⟩)])∧w'=w.alloc (.cells #[.slice p n c] 106):=by
 go_enter Tryz.func157,Tryz.ntmps157
 go_wp2
 go_ret
 exact ⟨rfl,rfl⟩
end Go.Proofs.YtnpkcneojilmkaaGreatDoor.Attr
end
section
namespace Go.Proofs.YtnpkcneojilmkaaGreatDoor.Attr
open Go.ChangeShapes Go.WideShapes Go.ChangeAt Go.RowKit Go.Shelf Base Byt Txt Rec Bk Go.Lib
set_option linter.unusedVariables false
set_option maxRecDepth 100000
attribute [local go_sem] Oper.semAt_some
def recC (k v:List UInt8):Array Value:=#[.string (str k),.string (str v)]
def lastV (rs:RecL) (k:List UInt8):Value:=match lastD rs k with
 | some v => .tuple #[.agg (recC k v),.bool true]
 | none => .tuple #[.agg (recC [] []),.bool false]
theorem lastD_rev {rs pre:RecL} {x:List UInt8 × List UInt8} {rest:RecL} {k:List UInt8} (h:rs.reverse=pre++x :: rest) (hp:∀ r ∈ pre,r.1≠k) (hx:x.1=k):lastD rs k=some x.2:=by
 have e:rs=rest.reverse++x :: pre.reverse:=by
  have:=congrArg List.reverse h;rw [List.reverse_reverse,List.reverse_append,List.reverse_cons,List.append_assoc] at this;exact this
 rw [e,lastD_app,lastD,lastD_none (rs:=pre.reverse) fun r hr => hp r (List.mem_reverse.1 hr)]
 simp [hx]
theorem ret_rec (tmps:Array Value) (w:World) (b0 b1:Nat) (a b:ByteArray) (o:Bool) (h0:tmps[4]? = some (.pointer (some ⟨b0,0,none⟩))) (h1:tmps[5]? = some (.pointer (some ⟨b1,0,none⟩)))
 (c0:Blk w b0 37 #[.string a,.string b]) (c1:Blk w b1 4 #[.bool o]) :
 (results Tryz.f142 tmps).run Tryz.prog w=.ok (.tuple #[.agg #[.string a,.string b],.bool o]) w:=by
 have d0:=c0.cell 0;have d1:=c0.cell 1;have d2:=c1.cell 0;simp at d0 d1 d2;simp [results,Tryz.f142,go_sem,h0,h1,d0,d1,d2]
set_option maxHeartbeats 2000000 in
theorem last_any (k:List UInt8) (p:Option Addr) (n c:Nat) (rs:RecL) (w:World) (hn:n≤4611686018427387904) (h:RecsAt w p n rs) :
 Calls Tryz.prog 142 #[.string (str k),.slice p n c] w fun e w' => e=.returned (lastV rs k)∧Below w.heap.size w w':=by
 obtain rfl:rs.length=n:=h.1;have H:=Lib.hid h;clear h;refine (callsIn_wide (n:=3)).1 ?_
 refine callsIn_of_wp_marks Tryz.func142 rfl trivial ?_ rfl;simp only [Tryz.ntmps142,List.size_toArray,List.length_cons,List.length_nil,Nat.reduceAdd,Nat.reduceSub,Array.replicate_succ,Array.replicate_zero,List.push_toArray,List.append_toArray,List.nil_append,List.cons_append]
 gi_wp2_with fail
 refine ⟨trivial,(callsIn_wide.2 (backward_any _ _ _ _)).mono ?_⟩;rintro e w' ⟨rfl,rfl⟩
 gi_wp2_with fail
 have bK:Blk _ w.heap.size 9 #[.string (str k)]:=(((Blk.new w 9 #[.string (str k)]).alloc (.cells #[.string ⟨#[]⟩,.string ⟨#[]⟩] 37)).alloc (.cells #[.bool false] 4)).alloc (.cells #[.slice p rs.length c] 106);have bR:=((Blk.new (w.alloc (.cells #[.string (str k)] 9)) 37 #[.string ⟨#[]⟩,.string ⟨#[]⟩]).alloc (.cells #[.bool false] 4)).alloc (.cells #[.slice p rs.length c] 106);have bO:=(Blk.new ((w.alloc (.cells #[.string (str k)] 9)).alloc (.cells #[.string ⟨#[]⟩,.string ⟨#[]⟩] 37)) 4 #[.bool false]).alloc (.cells #[.slice p rs.length c] 106);have bS:=Blk.new (((w.alloc (.cells #[.string (str k)] 9)).alloc (.cells #[.string ⟨#[]⟩,.string ⟨#[]⟩] 37)).alloc (.cells #[.bool false] 4)) 106 #[.slice p rs.length c]
 have hB0:Below w.heap.size w ((((w.alloc (.cells #[.string (str k)] 9)).alloc (.cells #[.string ⟨#[]⟩,.string ⟨#[]⟩] 37)).alloc (.cells #[.bool false] 4)).alloc (.cells #[.slice p rs.length c] 106)):=
  ((((Below.refl _ w).alloc (Nat.le_refl _) _).alloc (by simp) _).alloc (by simp;omega) _).alloc (by simp;omega) _
 have hsz:((((w.alloc (.cells #[.string (str k)] 9)).alloc (.cells #[.string ⟨#[]⟩,.string ⟨#[]⟩] 37)).alloc (.cells #[.bool false] 4)).alloc (.cells #[.slice p rs.length c] 106)).heap.size=w.heap.size+4:=by simp
 simp only [World.size_alloc] at bR bO bS;obtain ⟨W0,hW0⟩:∃ W0,(((w.alloc (.cells #[.string (str k)] 9)).alloc (.cells #[.string ⟨#[]⟩,.string ⟨#[]⟩] 37)).alloc (.cells #[.bool false] 4)).alloc (.cells #[.slice p rs.length c] 106)=W0:=⟨_,rfl⟩;rw [hW0] at bK bR bO bS hB0 hsz ⊢;clear hW0;have HSZ:=Lib.hid hsz;have HB0:=Lib.hid hB0;have hR0:=H.out.below hB0
 refine wpIn_rangeFunc_ownH rfl (by omega) (gf:=171) (lb:=#[.pointer (some ⟨w.heap.size+1+1+1,0,none⟩)]) rfl trivial (enters_of Tryz.func171 (by kernel_rfl) rfl)
  (back_stops _ (by omega) (w.heap.size+1+1+1) p c rs hn W0 (by omega) (bS.cell 0) hR0) belowK_t (belowK_b (Nat.le_refl _)) (Below.refl _ _) (fun _ => rfl)
  (fun pre W => (Blk W w.heap.size 9 #[.string (str k)]∧Blk W (w.heap.size+1) 37 #[.string ⟨#[]⟩,.string ⟨#[]⟩]∧Blk W (w.heap.size+1+1) 4 #[.bool false] ∧ ∀ x ∈ pre,x.2.1≠k)∧Below W0.heap.size W0 W)
  (fun c pre W => (c=.ret ∧ ∃ pre0 x,pre=pre0++[x]∧(∀ y ∈ pre0,y.2.1≠k)∧x.2.1=k∧Blk W (w.heap.size+1) 37 #[.string (str x.2.1),.string (str x.2.2)]∧Blk W (w.heap.size+1+1) 4 #[.bool true])∧Below w.heap.size w W)
  (OwnFrom.and (Own.from (fun s A B row hs hg hr => ⟨hs.1.kept hg hr,hs.2.1.kept hg hr,hs.2.2.1.kept hg hr,hs.2.2.2⟩) _) (ownFrom_below (Nat.le_refl _) (Nat.le_refl _)))
  (fun c => OwnFrom.and (Own.from (fun s A B row hs hg hr => by obtain ⟨h0,pre0,x,h1,h2,h3,h4,h5⟩:=hs;exact ⟨h0,pre0,x,h1,h2,h3,h4.kept hg hr,h5.kept hg hr⟩) _) (ownFrom_below (Nat.le_refl _) (by omega)))
  ⟨⟨bK,bR,bO,by simp⟩,Below.refl _ _⟩
  (fun x a' W => ∃ Bx,W0.heap.size≤Bx∧Blk W Bx 37 #[.string (str x.2.1),.string (str x.2.2)]∧a' = { tmps:=#[.string (str k),.slice p rs.length c,.pointer (some ⟨w.heap.size,0,none⟩),undef,.pointer (some ⟨w.heap.size+1,0,none⟩),.pointer (some ⟨w.heap.size+1+1,0,none⟩),undef,.pointer (some ⟨Bx,0,none⟩),.slice p rs.length c,.func (.func 171) #[] #[.pointer (some ⟨w.heap.size+1+1+1,0,none⟩)],.int .i64 (x.1:Int),.agg #[.string (str x.2.1),.string (str x.2.2)],undef,undef,undef,undef,undef,undef],defers:=[] })
  (fun x a' _ X Y row hs hg hr => by obtain ⟨Bx,h1,h2,h3⟩:=hs;exact ⟨Bx,h1,h2.kept hg (fun r e => (hr r e).2),h3⟩)
  ?assign ?body ?done ?stop
 case assign =>
  rintro l pre x W K ⟨⟨b1,b2,b3,hx⟩,hB1⟩ hK;have hs:=hB1.size;have HKP:=Lib.hid hK;have HI:=Lib.hid (And.intro (And.intro b1 (And.intro b2 (And.intro b3 hx))) hB1);clear hK b1 b2 b3 hx hB1;simp only [encI]
  gi_wp2
  obtain ⟨⟨b1,b2,b3,hx⟩,hB1⟩:=HI.out;exact HKP.out _ _ ((KeepsOthers.alloc _ _).from _) ((Below.refl _ W).alloc hs _) ⟨⟨b1.alloc _,b2.alloc _,b3.alloc _,hx⟩,hB1.alloc hs _⟩ ⟨W.heap.size,hs,Blk.new _ _ _,rfl⟩
 case body =>
  rintro l pre x a' W hl hr ⟨⟨b1,b2,b3,hx⟩,hB1⟩ ⟨Bx,hBx,bX,rfl⟩ hlt;have hs:=hB1.size;have c0:=b1.cell 0;have d0:=bX.cell 0;have d1:=bX.cell 1;simp only [List.getElem?_toArray,List.getElem?_cons_zero,List.getElem?_cons_succ] at c0 d0 d1
  by_cases hk:x.2.1=k
  ·have e1:((str x.2.1).toList == (str k).toList)=true:=by rw [str_toList,str_toList];simpa using hk
   have f0:=b2.frozen 0;have f1:=b2.frozen 1;have r0:=b2.cell 0;have r1:=b2.cell 1;have f2:=b3.frozen 0;have r2:=b3.cell 0;simp only [List.getElem?_toArray,List.getElem?_cons_zero,List.getElem?_cons_succ] at r0 r1 r2;have HI:=Lib.hid (And.intro (And.intro b1 (And.intro b2 (And.intro b3 hx))) hB1);have HK:=Lib.hid hk;clear hk b1 b2 b3 hx hB1 bX hR0 bK bR bO bS hB0
   gi_wp2
   obtain ⟨⟨b1,b2,b3,hx⟩,hB1⟩:=HI.out;have hBw:Below w.heap.size w W:=HB0.out.trans (hB1.mono (by have:=HSZ.out;omega))
   exact ⟨(((KeepsOthers.setCell _ _ _).trans (KeepsOthers.setCell _ _ _)).trans (KeepsOthers.setCell _ _ _)).from _,
    ⟨rfl,pre,x,rfl,hx,HK.out,((b2.set 0 _ (by decide)).set 1 _ (by simp)).other (by omega) _,((b3.other (by omega) _).other (by omega) _).set 0 _ (by decide)⟩,
    ((hBw.setCell (p:=⟨w.heap.size+1,0,none⟩) (by simp) _).setCell (p:=⟨w.heap.size+1,1,none⟩) (by simp) _).setCell (p:=⟨w.heap.size+1+1,0,none⟩) (by simp;omega) _⟩
  ·have e1:((str x.2.1).toList == (str k).toList)=false:=by rw [str_toList,str_toList];simpa using hk
   have HI:=Lib.hid (And.intro (And.intro b1 (And.intro b2 (And.intro b3 hx))) hB1);have HK:=Lib.hid hk;clear hk b1 b2 b3 hx hB1 bX hR0 bK bR bO bS hB0
   gi_wp2
   obtain ⟨⟨b1,b2,b3,hx⟩,hB1⟩:=HI.out
   exact ⟨KeepsFrom.refl _ _,Below.refl _ _,⟨b1,b2,b3,fun y hy => by
    rcases List.mem_append.1 hy with hy | hy
    ·exact hx y hy
    ·rw [List.mem_singleton.1 hy];exact HK.out⟩,hB1⟩
 case done =>
  rintro D ys W hD rfl ⟨⟨b1,b2,b3,hx⟩,hB1⟩ hK;have f0:=b2.frozen 0;have f1:=b2.frozen 1;have r0:=b2.cell 0;have r1:=b2.cell 1;have f2:=b3.frozen 0;have r2:=b3.cell 0;simp only [List.getElem?_toArray,List.getElem?_cons_zero,List.getElem?_cons_succ] at r0 r1 r2;have HI:=Lib.hid (And.intro (And.intro b1 (And.intro b2 (And.intro b3 hx))) hB1);have HK:=Lib.hid hK;clear hK b1 b2 b3 hx hB1 hR0 bK bR bO bS
  gi_wp2
  obtain ⟨⟨b1,b2,b3,hx⟩,hB1⟩:=HI.out;have hBw:Below w.heap.size w W:=HB0.out.trans (hB1.mono (by have:=HSZ.out;omega))
  have hK':=(((KeepsOthers.setCell W ⟨w.heap.size+1,0,none⟩ (.string ⟨#[]⟩)).trans (KeepsOthers.setCell _ ⟨w.heap.size+1,1,none⟩ (.string ⟨#[]⟩))).trans (KeepsOthers.setCell _ ⟨w.heap.size+1+1,0,none⟩ (.bool false))).same D _ HK.out rfl;refine ⟨by simp,.inl ⟨_,_,rfl,run_takeDeferred hK',?_⟩⟩
  have k0:=(((b2.set 0 (.string ⟨#[]⟩) (by decide)).set 1 (.string ⟨#[]⟩) (by decide)).other (b':=w.heap.size+1+1) (i:=0) (by omega) (.bool false)).kept (grownBy_putObj' _ D (.deferred none)) (fun r e => by cases e;exact ⟨_,hK',rfl⟩)
  have k1:=(((b3.other (b':=w.heap.size+1) (i:=0) (by omega) (.string ⟨#[]⟩)).other (b':=w.heap.size+1) (i:=1) (by omega) (.string ⟨#[]⟩)).set 0 (.bool false) (by decide)).kept (grownBy_putObj' _ D (.deferred none)) (fun r e => by cases e;exact ⟨_,hK',rfl⟩)
  have hv:lastV rs k=.tuple #[.agg #[.string ⟨#[]⟩,.string ⟨#[]⟩],.bool false]:=by
   unfold lastV;rw [lastD_none fun r hr => ?_]
   ·rfl
   ·have:r ∈ (backTo rs rs.length).map (·.2):=by rw [backTo_all];exact List.mem_reverse.2 hr
    obtain ⟨y,hy,rfl⟩:=List.mem_map.1 this;exact hx y hy
  rw [hv]
  exact ⟨_,ret_rec _ _ (w.heap.size+1) (w.heap.size+1+1) ⟨#[]⟩ ⟨#[]⟩ false rfl rfl k0 k1,rfl,
   (((hBw.setCell (p:=⟨w.heap.size+1,0,none⟩) (by simp) _).setCell (p:=⟨w.heap.size+1,1,none⟩) (by simp) _).setCell (p:=⟨w.heap.size+1+1,0,none⟩) (by simp;omega) _).trans (belowK_b (w:=w) (Nat.le_refl _) _ D _ _ (by have:=HSZ.out;omega) hK' rfl rfl)⟩
 case stop =>
  rintro D c pre W hD hpre ⟨⟨rfl,pre0,x,rfl,h1,h2,b2,b3⟩,hB⟩ hK;have HI:=Lib.hid (And.intro b2 (And.intro b3 hB));have HK:=Lib.hid hK;clear b2 b3 hB hK
  gi_wp2
  obtain ⟨b2,b3,hB⟩:=HI.out;have hK':=HK.out;refine ⟨by simp,.inl ⟨_,_,rfl,run_takeDeferred hK',?_⟩⟩
  have k0:=b2.kept (grownBy_putObj' _ D (.deferred none)) (fun r e => by cases e;exact ⟨_,hK',rfl⟩)
  have k1:=b3.kept (grownBy_putObj' _ D (.deferred none)) (fun r e => by cases e;exact ⟨_,hK',rfl⟩)
  have hv:lastV rs k=.tuple #[.agg #[.string (str x.2.1),.string (str x.2.2)],.bool true]:=by
   obtain ⟨rest,hrest⟩:=hpre;have e:=backTo_all rs;rw [← hrest,List.map_append,List.map_append,List.map_singleton,List.append_assoc,List.singleton_append] at e;unfold lastV;rw [lastD_rev e.symm (fun r hr => by obtain ⟨y,hy,rfl⟩:=List.mem_map.1 hr;exact h1 y hy) h2,← h2]
   rfl
  rw [hv];exact ⟨_,ret_rec _ _ (w.heap.size+1) (w.heap.size+1+1) _ _ true rfl rfl k0 k1,rfl,hB.trans (belowK_b (w:=w) (Nat.le_refl _) _ D _ _ (by have:=HSZ.out;omega) hK' rfl rfl)⟩
end Go.Proofs.YtnpkcneojilmkaaGreatDoor.Attr
end
section
namespace Go.Proofs.YtnpkcneojilmkaaGreatDoor.Attr
open Go.ChangeShapes Go.WideShapes Go.ChangeAt Go.RowKit Go.Shelf Base Byt Txt Rec Bk Mk Go.Lib
set_option linter.unusedVariables false
set_option maxRecDepth 100000
abbrev Glob:=List UInt8 → Option (List UInt8)
def recF (F:Glob):List UInt8 → Option Value:=fun k => (F k).map fun v => .agg (recC k v)
def St (w:World) (g:Nat) (mb:Option Nat) (F:Glob):Prop:=
 Blk w g 95 #[.map mb]∧(mb=none → F=noneF) ∧ ∀ B,mb=some B → MapK strK w B (recF F)
def StP (w:World) (p:Option Addr) (F:Glob):Prop:=(p=none∧F=noneF) ∨ ∃ g mb,p=some ⟨g,0,none⟩∧St w g mb F
def stB (g:Nat) (mb:Option Nat):Nat → Prop:=fun k => k=g ∨ mb=some k
section
variable {w w':World} {g:Nat} {mb:Option Nat} {F:Glob} {p:Option Addr}
theorem St.lt (h:St w g mb F):g < w.heap.size:=h.1.lt
theorem St.ltB (h:St w g mb F) {B:Nat} (hB:mb=some B):B < w.heap.size:=(h.2.2 B hB).lt
theorem St.kept {S:Nat → Prop} (h:St w g mb F) (hk:Kept S w w') (hn:∀ k,stB g mb k → ¬ S k):St w' g mb F:=
 ⟨h.1.keptS hk (hn g (.inl rfl)),h.2.1,fun B hB => (h.2.2 B hB).kept hk (hn B (.inr hB))⟩
theorem St.below (h:St w g mb F) (hb:Below w.heap.size w w'):St w' g mb F:=h.kept (Kept.of_below hb noneB) (fun _ _ => id)
theorem StP.below (h:StP w p F) (hb:Below w.heap.size w w'):StP w' p F:=h.imp id fun ⟨g,mb,hp,hs⟩ => ⟨g,mb,hp,hs.below hb⟩
theorem St.new (w:World):St (w.alloc (.cells #[.map none] 95)) w.heap.size none noneF:=⟨Blk.new w _ _,fun _ => rfl,fun _ h => by cases h⟩
theorem St.ptr (h:St w g mb F):StP w (some ⟨g,0,none⟩) F:=.inr ⟨g,mb,rfl,h⟩
theorem StP.nil (w:World):StP w none noneF:=.inl ⟨rfl,rfl⟩
theorem recs_off {p:Option Addr} {n:Nat} {rs:RecL} (h:St w g mb F) (hr:RecsAt w p n rs) (h0:0 < n) {a:Addr} (ha:p=some a):¬ stB g mb a.block:=by
 obtain ⟨b,o,rfl,hb,hc⟩:=hr.2 h0
 cases ha
 have c0:=(hc 0 h0).1;rintro (e | e)
 ·subst e
  rw [h.1.cell] at c0;rcases Nat.eq_zero_or_pos o with rfl | ho
  ·simp at c0
  ·rw [Array.getElem?_eq_none (by simp;omega)] at c0;cases c0
 ·obtain ⟨es,clock,hm,_⟩:=h.2.2 _ e
  simp [World.cell?,hm] at c0
theorem recsAt_kept {S:Nat → Prop} {p:Option Addr} {n:Nat} {rs:RecL} (hr:RecsAt w p n rs) (hk:Kept S w w') (hn:0 < n → ∀ a,p=some a → ¬ S a.block):RecsAt w' p n rs:=by
 refine ⟨hr.1,fun h0 => ?_⟩
 obtain ⟨b,o,rfl,hb,hc⟩:=hr.2 h0;have e:=hk.block b hb (hn h0 _ rfl);exact ⟨b,o,rfl,Nat.lt_of_lt_of_le hb hk.size,fun i hi => ⟨by rw [World.cell?_of_block e];exact (hc i hi).1,by rw [World.cell?_of_block e];exact (hc i hi).2⟩⟩
theorem recZero (w:World):(zeroValue 37).run Tryz.prog w=.ok (.agg #[.string ⟨#[]⟩,.string ⟨#[]⟩]) w:=Tryz.zeroValue37 w
theorem recValue (w:World) (a b:ByteArray):(Instr.field 37 (.agg #[.string a,.string b]) 1).run Tryz.prog w=.ok (.string b) w:=by
 kernel_rfl
theorem st_look (h:St w g mb F) (k:List UInt8) :
 ∃ x:ByteArray,(Instr.lookup 93 (.map mb) (.string (str k)) false).run Tryz.prog w=.ok (.agg #[.string x,.string (str ((F k).getD []))]) w:=by
 cases mb with
 | none =>
   refine ⟨⟨#[]⟩,?_⟩;rw [h.2.1 rfl];exact look_nil (K:=strK) Tryz.underlying93 Tryz.underlying9 recZero k w
 | some B =>
   have hl:=(h.2.2 B rfl).look Tryz.underlying93 Tryz.underlying9 recZero k
   cases hf:F k with
   | none =>
     refine ⟨⟨#[]⟩,?_⟩;rw [show recF F k=none by unfold recF;rw [hf];rfl] at hl
     exact hl
   | some v =>
     refine ⟨str k,?_⟩;rw [show recF F k=some (.agg (recC k v)) by unfold recF;rw [hf];rfl] at hl
     exact hl
end
set_option maxHeartbeats 1000000 in
theorem value_any (s:Option Addr) (F:Glob) (k:List UInt8) (p:Option Addr) (n c:Nat) (rs:RecL) (w:World) (hs:StP w s F) (hn:n≤4611686018427387904) (h:RecsAt w p n rs) :
 Calls Tryz.prog 111 #[.pointer s,.string (str k),.slice p n c] w fun e w' => e=.returned (.string (str (valueD F rs k)))∧Below w.heap.size w w':=by
 have hl:=last_any k p n c rs w hn h;have HS:=Lib.hid hs;clear hs h hn;unfold valueD
 cases hr:lastD rs k with
 | some v =>
   rw [show lastV rs k=.tuple #[.agg #[.string (str k),.string (str v)],.bool true] by unfold lastV;rw [hr];rfl] at hl
   clear hr
   go_enter Tryz.func111,Tryz.ntmps111
   go_wp2_with fail
   refine hl.mono ?_
   rintro e w1 ⟨rfl,hB⟩;have HB:=Lib.hid hB;clear hB hl
   go_wp2
   go_ret
   exact ⟨rfl,HB.out.alloc HB.out.size _⟩
 | none =>
   rw [show lastV rs k=.tuple #[.agg #[.string ⟨#[]⟩,.string ⟨#[]⟩],.bool false] by unfold lastV;rw [hr];rfl] at hl
   clear hr;rcases HS.out with ⟨rfl,rfl⟩ | ⟨g,mb,rfl,hst⟩
   ·go_enter Tryz.func111,Tryz.ntmps111
    go_wp2_with fail
    refine hl.mono ?_
    rintro e w1 ⟨rfl,hB⟩;have HB:=Lib.hid hB;clear hB hl
    go_wp2
    go_ret
    exact ⟨rfl,HB.out.alloc HB.out.size _⟩
   ·have HST:=Lib.hid hst
    clear hst
    go_enter Tryz.func111,Tryz.ntmps111
    go_wp2_with fail
    refine hl.mono ?_
    rintro e w1 ⟨rfl,hB⟩;have hst2:=HST.out.below (hB.alloc hB.size (.cells #[.string ⟨#[]⟩,.string ⟨#[]⟩] 37));obtain ⟨a,hlook⟩:=st_look hst2 k;have c0:=hst2.1.cell 0;simp only [List.getElem?_toArray,List.getElem?_cons_zero] at c0;have HB:=Lib.hid hB;have hfld:=fun w => recValue w a (str ((F k).getD []))
    clear hB hl hst2
    go_wp2
    go_ret
    exact ⟨rfl,HB.out.alloc HB.out.size _⟩
def GlobPost (w:World) (g:Nat) (mb:Option Nat) (F:Glob) (rs:RecL) (e:Ending) (w':World):Prop:=
 e=.returned (.tuple #[]) ∧ ∃ B,St w' g (some B) (moreF F rs)∧Kept (stB g mb) w w'∧(mb=some B ∨ w.heap.size≤B)
theorem recF_more (F:Glob) (rs:RecL) (k v:List UInt8):(fun y => if y=k then some (Value.agg (recC k v)) else recF (moreF F rs) y)=recF (moreF F (rs++[(k,v)])):=by
 funext y
 rw [moreF_snoc];unfold recF
 by_cases h:y=k
 ·subst h;simp
 ·simp [h]
theorem take_one (rs:RecL) (j:Nat) (hj:j < rs.length):rs.take (j+1)=rs.take j++[rs.getD j ([],[])]:=by
 rw [List.take_add_one];simp [List.getD,hj]
theorem St.ne {w:World} {g B:Nat} {F:Glob} (h:St w g (some B) F):¬ oneB B g:=fun e => by
 obtain ⟨es,clock,hm,_⟩:=h.2.2 B rfl;have e:g=B:=e;have h1:=h.1;unfold Blk at h1;rw [e,hm] at h1
 cases h1
set_option maxHeartbeats 2000000 in
theorem global_map (g B:Nat) (F:Glob) (p:Option Addr) (n c:Nat) (rs:RecL) (w:World) (hs:St w g (some B) F) (hn:n≤4611686018427387904) (h:RecsAt w p n rs) :
 Calls Tryz.prog 82 #[.pointer (some ⟨g,0,none⟩),.slice p n c] w (GlobPost w g (some B) F rs):=by
 have HS:=Lib.hid hs;have HR:=Lib.hid h;have HL:=Lib.hid h.1;have c0:=hs.1.cell 0;simp only [List.getElem?_toArray,List.getElem?_cons_zero] at c0;have HF:Hid (∀ wr,Kept (stB g (some B)) w wr → Kept (stB g (some B)) w wr):=Lib.hid (fun _ h => h)
 have HBB:Hid (some B=some B ∨ w.heap.size≤B):=Lib.hid (.inl rfl);clear hs h;have hem:=fun w => run_eql_map_nil (P:=Tryz.prog) w 93 _ _ (some B) Tryz.underlying93
 simp only [Option.isNone_some] at hem
 go_enter Tryz.func82,Tryz.ntmps82
 go_wp2_with fail
 clear c0 hem
 go_loopw [19] (fun i wr => ∃ (j:Nat),j≤n∧i=.int .i64 (j:Int)∧Hid (St wr g (some B) (moreF F (rs.take j))∧RecsAt wr p n rs∧Kept (stB g (some B)) w wr)) (fun i _ => n - (RowKit.intOf i).toNat)
 case atStart => exact ⟨0,Nat.zero_le _,rfl,Lib.hid ⟨by rw [List.take_zero,moreF_nil];exact HS.out,HR.out,Kept.refl _ _⟩⟩
 case round =>
  obtain ⟨j,hj,rfl,hI⟩:=hrel
  by_cases hlt:j < n
  ·obtain ⟨hst,hrs,hk⟩:=hI.out
   have hltz:(j:Int) < (n:Int):=by omega
   obtain ⟨b,o,rfl,hb,hc⟩:=hrs.2 (by omega)
   obtain ⟨x0,x1⟩:=hc j hlt;obtain ⟨⟨rk,rv⟩,hr⟩:∃ u,rs.getD j ([],[])=u:=⟨_,rfl⟩;rw [hr,Nat.mul_comm] at x0 x1;simp only at x0 x1;have hst2:=hst.below ((Below.refl _ wr).alloc (Nat.le_refl _) (.cells #[.string (str rk),.string (str rv)] 37));have hrs2:=hrs.below ((Below.refl _ wr).alloc (Nat.le_refl _) (.cells #[.string (str rk),.string (str rv)] 37));have hk2:=hk.alloc (.cells #[.string (str rk),.string (str rv)] 37);have d0:=hst2.1.cell 0;simp only [List.getElem?_toArray,List.getElem?_cons_zero] at d0;obtain ⟨r0,r1⟩:=cells2 wr 37 (.string (str rk)) (.string (str rv))
   have HI:=Lib.hid (And.intro hst2 (And.intro hrs2 hk2));have HRR:=Lib.hid hr;clear hst hrs hk hb hc hr hst2 hrs2 hk2 hI
   go_wp2_with fail
   obtain ⟨w4,hw4⟩:∃ w4,wr.alloc (.cells #[.string (str rk),.string (str rv)] 37)=w4:=⟨_,rfl⟩;rw [hw4] at d0 HI r0 r1 ⊢;clear hw4 x0 x1
   go_still_tail 7,(by kernel_rfl)
   refine wpList_putK (K:=strK) rfl (.tmp 26) (.tmp 28) (.tmp 29) rfl Tryz.underlying93 Tryz.underlying9 B ((HI.out.1.2.2 B rfl).kept (Kept.refl noneB w4).drew id) rfl rk rfl (.agg (recC rk rv)) rfl ?_
   intro w5 hm5 hk5 hs5
   have HN:Hid (St w5 g (some B) (moreF F (rs.take (j+1)))∧RecsAt w5 (some ⟨b,o,none⟩) n rs∧Kept (stB g (some B)) w w5):=by
    obtain ⟨hst,hrs,hk⟩:=HI.out;have hk':Kept (oneB B) w4 w5:=((Kept.refl (oneB B) w4).drew).trans hk5.out;refine Lib.hid ⟨⟨hst.1.keptS hk' hst.ne,(fun h => by cases h),fun B' h => ?_⟩,recsAt_kept hrs hk' (fun h0 a ha e => recs_off hst hrs h0 ha (.inr (by rw [show a.block=B from e]))),hk.then hk' (fun i hi => .inr (.inr (by rw [show i=B from hi])))⟩
    cases h
    rw [take_one rs j (by rw [HL.out];exact hlt),HRR.out,← recF_more]
    exact hm5.out
   clear hm5 hk5 hs5
   go_wp2
   go_roundw
   case rel => exact ⟨j+1,by omega,by go_num,HN⟩
   case measure => simp [RowKit.intOf];omega
  ·obtain rfl:j=n:=by omega
   have hltz:¬ ((j:Int) < (j:Int)):=by omega
   go_wp2
   go_end0
   have hI:=hI.out;rw [List.take_of_length_le (by rw [HL.out];exact Nat.le_refl _)] at hI
   exact ⟨rfl,B,hI.1,HF.out _ hI.2.2,by first | exact HBB.out | exact .inl rfl⟩
set_option maxHeartbeats 2000000 in
theorem global_none (g:Nat) (p:Option Addr) (n c:Nat) (rs:RecL) (w:World) (hs:St w g none noneF) (hn:n≤4611686018427387904) (h:RecsAt w p n rs) :
 Calls Tryz.prog 82 #[.pointer (some ⟨g,0,none⟩),.slice p n c] w (GlobPost w g none noneF rs):=by
 have c0:=hs.1.cell 0;simp only [List.getElem?_toArray,List.getElem?_cons_zero] at c0;have f0:=hs.1.frozen 0;have f1:=(hs.1.alloc (.map #[] 0)).frozen 0;have c1:=(hs.1.alloc (.map #[] 0)).cell 0;simp only [List.getElem?_toArray,List.getElem?_cons_zero] at c1;have hmm:=@run_makeMap Tryz.prog;have hem:=fun w => run_eql_map_nil (P:=Tryz.prog) w 93 _ _ none Tryz.underlying93
 simp only [Option.isNone_none] at hem;have hgl:g < w.heap.size:=hs.lt;obtain ⟨F,hF⟩:∃ F,F=noneF:=⟨_,rfl⟩;have hka:Kept (stB g none) w ((w.alloc (.map #[] 0)).setCell ⟨g,0,none⟩ (.map (some w.heap.size))):=((Kept.refl (stB g none) w).alloc _).setCell (a:=⟨g,0,none⟩) (.inr (.inl rfl)) _;have hra:=recsAt_kept h hka (fun h0 a ha => recs_off hs h h0 ha)
 have hsa:St ((w.alloc (.map #[] 0)).setCell ⟨g,0,none⟩ (.map (some w.heap.size))) g (some w.heap.size) F:=by
  refine ⟨(hs.1.alloc (.map #[] 0)).set 0 _ (by decide),(fun h => by cases h),fun B' hB => ?_⟩
  cases hB
  have hm:=(mapK_made strK w).kept (((Kept.refl (oneB g) (w.alloc (.map #[] 0)))).setCell (a:=⟨g,0,none⟩) (.inr rfl) (.map (some w.heap.size))) (fun e => by have:w.heap.size=g:=e;omega)
  rw [hF];exact hm
 have HF:Hid (∀ wr,Kept (stB g (some w.heap.size)) ((w.alloc (.map #[] 0)).setCell ⟨g,0,none⟩ (.map (some w.heap.size))) wr → Kept (stB g none) w wr):=Lib.hid (fun wr h => hka.then h (fun i hi => by
  rcases hi with hi | hi
  ·exact .inr (.inl hi)
  ·cases hi;exact .inl (Nat.le_refl _)))
 have HBB:Hid ((none:Option Nat)=some w.heap.size ∨ w.heap.size≤w.heap.size):=Lib.hid (.inr (Nat.le_refl _));have HL:=Lib.hid h.1;have HS:=Lib.hid hsa;have HR:=Lib.hid hra;rw [← hF];clear hsa hra hka h hs hgl hF
 go_enter Tryz.func82,Tryz.ntmps82
 go_wp2_with fail
 obtain ⟨W0,hW0⟩:∃ W0,(w.alloc (.map #[] 0)).setCell ⟨g,0,none⟩ (.map (some w.heap.size))=W0:=⟨_,rfl⟩;obtain ⟨B,hB⟩:∃ B,w.heap.size=B:=⟨_,rfl⟩;rw [hW0,hB] at HS HF;rw [hW0] at HR ⊢;rw [hB];clear HBB;have HBB:Hid ((none:Option Nat)=some B ∨ w.heap.size≤B):=Lib.hid (.inr (by omega))
 clear c0 f0 c1 f1 hem hmm hW0 hB
 go_loopw [19] (fun i wr => ∃ (j:Nat),j≤n∧i=.int .i64 (j:Int)∧Hid (St wr g (some B) (moreF F (rs.take j))∧RecsAt wr p n rs∧Kept (stB g (some B)) W0 wr)) (fun i _ => n - (RowKit.intOf i).toNat)
 case atStart => exact ⟨0,Nat.zero_le _,rfl,Lib.hid ⟨by rw [List.take_zero,moreF_nil];exact HS.out,HR.out,Kept.refl _ _⟩⟩
 case round =>
  obtain ⟨j,hj,rfl,hI⟩:=hrel
  by_cases hlt:j < n
  ·obtain ⟨hst,hrs,hk⟩:=hI.out
   have hltz:(j:Int) < (n:Int):=by omega
   obtain ⟨b,o,rfl,hb,hc⟩:=hrs.2 (by omega)
   obtain ⟨x0,x1⟩:=hc j hlt;obtain ⟨⟨rk,rv⟩,hr⟩:∃ u,rs.getD j ([],[])=u:=⟨_,rfl⟩;rw [hr,Nat.mul_comm] at x0 x1;simp only at x0 x1;have hst2:=hst.below ((Below.refl _ wr).alloc (Nat.le_refl _) (.cells #[.string (str rk),.string (str rv)] 37));have hrs2:=hrs.below ((Below.refl _ wr).alloc (Nat.le_refl _) (.cells #[.string (str rk),.string (str rv)] 37));have hk2:=hk.alloc (.cells #[.string (str rk),.string (str rv)] 37);have d0:=hst2.1.cell 0;simp only [List.getElem?_toArray,List.getElem?_cons_zero] at d0;obtain ⟨r0,r1⟩:=cells2 wr 37 (.string (str rk)) (.string (str rv))
   have HI:=Lib.hid (And.intro hst2 (And.intro hrs2 hk2));have HRR:=Lib.hid hr;clear hst hrs hk hb hc hr hst2 hrs2 hk2 hI
   go_wp2_with fail
   obtain ⟨w4,hw4⟩:∃ w4,wr.alloc (.cells #[.string (str rk),.string (str rv)] 37)=w4:=⟨_,rfl⟩;rw [hw4] at d0 HI r0 r1 ⊢;clear hw4 x0 x1
   go_still_tail 7,(by kernel_rfl)
   refine wpList_putK (K:=strK) rfl (.tmp 26) (.tmp 28) (.tmp 29) rfl Tryz.underlying93 Tryz.underlying9 B ((HI.out.1.2.2 B rfl).kept (Kept.refl noneB w4).drew id) rfl rk rfl (.agg (recC rk rv)) rfl ?_
   intro w5 hm5 hk5 hs5
   have HN:Hid (St w5 g (some B) (moreF F (rs.take (j+1)))∧RecsAt w5 (some ⟨b,o,none⟩) n rs∧Kept (stB g (some B)) W0 w5):=by
    obtain ⟨hst,hrs,hk⟩:=HI.out;have hk':Kept (oneB B) w4 w5:=((Kept.refl (oneB B) w4).drew).trans hk5.out;refine Lib.hid ⟨⟨hst.1.keptS hk' hst.ne,(fun h => by cases h),fun B' h => ?_⟩,recsAt_kept hrs hk' (fun h0 a ha e => recs_off hst hrs h0 ha (.inr (by rw [show a.block=B from e]))),hk.then hk' (fun i hi => .inr (.inr (by rw [show i=B from hi])))⟩
    cases h
    rw [take_one rs j (by rw [HL.out];exact hlt),HRR.out,← recF_more]
    exact hm5.out
   clear hm5 hk5 hs5
   go_wp2
   go_roundw
   case rel => exact ⟨j+1,by omega,by go_num,HN⟩
   case measure => simp [RowKit.intOf];omega
  ·obtain rfl:j=n:=by omega
   have hltz:¬ ((j:Int) < (j:Int)):=by omega
   go_wp2
   go_end0
   have hI:=hI.out;rw [List.take_of_length_le (by rw [HL.out];exact Nat.le_refl _)] at hI
   exact ⟨rfl,B,hI.1,HF.out _ hI.2.2,by first | exact HBB.out | exact .inl rfl⟩
theorem global_any (g:Nat) (mb:Option Nat) (F:Glob) (p:Option Addr) (n c:Nat) (rs:RecL) (w:World) (hs:St w g mb F) (hn:n≤4611686018427387904) (h:RecsAt w p n rs) :
 Calls Tryz.prog 82 #[.pointer (some ⟨g,0,none⟩),.slice p n c] w (GlobPost w g mb F rs):=by
 cases mb with
 | some B => exact global_map g B F p n c rs w hs hn h
 | none =>
   obtain rfl:=hs.2.1 rfl;exact global_none g p n c rs w hs hn h
end Go.Proofs.YtnpkcneojilmkaaGreatDoor.Attr
end
section
namespace Go.Proofs.YtnpkcneojilmkaaGreatDoor.Mem
open Go.ChangeShapes Go.WideShapes Go.ChangeAt Go.RowKit Base Byt Txt Bk Mk Block Attr Rec Go.Lib
set_option linter.unusedVariables false
set_option maxRecDepth 100000
structure RK where
 r:Nat
 g:Nat
 gs:Nat
 mw:Nat
 S:Sv
def waitF (s:RS) (q:Option Addr) (n c:Nat):UInt8 → Option Value:=fun k =>
 if k=120 then (if s.hasX=true then some (.agg #[.string ⟨#[]⟩,.slice q n c]) else none)
 else if k=76 then s.name.map (fun t => .agg #[.string (str t),.slice none 0 0])
 else if k=75 then s.link.map (fun t => .agg #[.string (str t),.slice none 0 0])
 else none
def readerC (K:RK) (v:Value):Array Value:=#[.pointer (some ⟨K.g,0,none⟩),.pointer (some ⟨K.gs,0,none⟩),.map (some K.mw),v]
def Ot (K:RK) (mb:Option Nat) (v:Value):Nat → Prop:=fun k => k=K.r ∨ k=K.gs ∨ k=K.mw ∨ mb=some k ∨ v.ownBlock=some k
structure Rd (w0 w:World) (K:RK) (a:Nat) (s:RS) (mb:Option Nat) (v:Value) (xs:List MP) (q:Option Addr) (n c:Nat):Prop where
 bel:Below w0.heap.size w0 w
 blk:Blk w K.r 74 (readerC K v)
 src:∃ t,Block.Src w K.g K.S a t
 off:K.S.off K.g
 st:St w K.gs mb (lastD s.glob)
 map:MapK u8K w K.mw (waitF s q n c)
 own:RecsAt w q n s.own
 own0:s.hasX=false → s.own=[]
 row:w.ownsRow w0.heap.size 26 8 v xs.length (flatM xs)
 out:xs.map MP.m=s.out
 bodies:∀ x ∈ xs,BodyAt w x
 apart:∀ x ∈ xs,0 < x.m.body.length → ∀ y,x.p=some y → ¬ Ot K mb v y.block∧y.block≠K.g
 sp:0 < K.S.n → ∀ y,K.S.p=some y → ¬ Ot K mb v y.block
 sq:0 < K.S.m → ∀ y,K.S.q=some y → ¬ Ot K mb v y.block
 ne:K.r≠K.g∧K.r≠K.gs∧K.r≠K.mw∧K.g≠K.gs∧K.g≠K.mw∧K.gs≠K.mw
 neB:∀ b,mb=some b → b≠K.r∧b≠K.g∧b≠K.gs∧b≠K.mw∧w0.heap.size≤b
 neV:∀ b,v.ownBlock=some b → b≠K.r∧b≠K.g∧b≠K.gs∧b≠K.mw∧mb≠some b
 base:w0.heap.size≤K.r∧w0.heap.size≤K.g∧w0.heap.size≤K.gs∧w0.heap.size≤K.mw
 many:s.out.length≤4096
 gl:∀ r ∈ s.glob,r.2.length≤1048576
 ol:(∀ r ∈ s.own,r.2.length≤1048576)∧s.own.length≤1048576
 nl:∀ t,s.name=some t → t.length≤1048576
 ll:∀ t,s.link=some t → t.length≤1048576
section
variable {w0 w w':World} {K:RK} {a:Nat} {s:RS} {mb:Option Nat} {v:Value} {xs:List MP} {q:Option Addr} {n c:Nat}
theorem bat_lt {p:Option Addr} {m:Nat} {bs:List UInt8} (h:BAt w p m bs) (h0:0 < m) {y:Addr} (hy:p=some y):y.block < w.heap.size:=by
 obtain ⟨b,o,he,hb,_⟩:=h.cell h0;rw [hy] at he
 cases he
 exact hb
theorem iat_lt {p:Option Addr} {m:Nat} {zs:List Int} (h:IAt w p m zs) (h0:0 < m) {y:Addr} (hy:p=some y):y.block < w.heap.size:=by
 obtain ⟨b,o,he,hb,hc⟩:=h h0;rw [hy] at he
 cases he
 exact hb
theorem recs_off_blk {b:Nat} {t:TypeId} {cs:Array Value} (hb:Blk w b t cs) (hs:∀ (i:Nat) (x:ByteArray),cs[i]? ≠ some (.string x)) {p:Option Addr} {m:Nat} {rs:RecL} (hr:RecsAt w p m rs) (h0:0 < m) {y:Addr} (hy:p=some y):y.block≠b:=by
 obtain ⟨b',o,rfl,hlt,hc⟩:=hr.2 h0
 cases hy
 rintro rfl;have c0:=(hc 0 h0).1;rw [hb.cell] at c0;exact hs _ _ c0
theorem recs_off_map {b:Nat} {α:Type} {Ky:Keying α} {f:α → Option Value} (hm:MapK Ky w b f) {p:Option Addr} {m:Nat} {rs:RecL} (hr:RecsAt w p m rs) (h0:0 < m) {y:Addr} (hy:p=some y):y.block≠b:=by
 obtain ⟨b',o,rfl,hlt,hc⟩:=hr.2 h0
 cases hy
 rintro rfl;obtain ⟨es,clock,hm,_⟩:=hm;have c0:=(hc 0 h0).1;simp [World.cell?,hm] at c0
theorem Rd.own_off_src (h:Rd w0 w K a s mb v xs q n c):0 < n → ∀ y,q=some y → ¬ oneB K.g y.block:=fun h0 y hy e => by
 obtain ⟨t,hs⟩:=h.src;refine recs_off_blk (show Blk w K.g 99 _ from hs.blk) ?_ h.own h0 hy e
 intro i x hx;rcases i with _ | _ | _ | _ | i<;>simp at hx
theorem Rd.own_off_st (h:Rd w0 w K a s mb v xs q n c):0 < n → ∀ y,q=some y → ¬ stB K.gs mb y.block:=fun h0 y hy e => recs_off h.st h.own h0 hy e
theorem Rd.need (h:Rd w0 w K a s mb v xs q n c) (hN:Need w0):Need w:=hN.below h.bel
theorem Rd.idle (h:Rd w0 w K a s mb v xs q n c) (hk:Kept noneB w w'):Rd w0 w' K a s mb v xs q n c where
 bel:=h.bel.trans (hk.below h.bel.size (fun k hk => hk.elim))
 blk:=h.blk.keptS hk id
 src:=by obtain ⟨t,hs⟩:=h.src;exact ⟨t,hs.kept0 hk⟩
 off:=h.off
 st:=h.st.kept hk (fun _ _ => id)
 map:=h.map.kept hk id
 own:=recsAt_kept h.own hk (fun _ _ _ => id)
 own0:=h.own0
 row:=ownsRow_kept h.row hk (fun _ _ => id)
 out:=h.out
 bodies:=fun x hx => (h.bodies x hx).kept hk (fun _ _ _ => id)
 apart:=h.apart
 sp:=h.sp
 sq:=h.sq
 ne:=h.ne
 neB:=h.neB
 neV:=h.neV
 base:=h.base
 many:=h.many
 gl:=h.gl
 ol:=h.ol
 nl:=h.nl
 ll:=h.ll
theorem Rd.below (h:Rd w0 w K a s mb v xs q n c) (hb:Below w.heap.size w w'):Rd w0 w' K a s mb v xs q n c:=h.idle (Kept.of_below hb noneB)
theorem Rd.moved (h:Rd w0 w K a s mb v xs q n c) {a':Nat} (hk:Kept (oneB K.g) w w') (hs:∃ t,Block.Src w' K.g K.S a' t):Rd w0 w' K a' s mb v xs q n c where
 bel:=h.bel.trans (hk.below h.bel.size (fun k hk => by rw [show k=K.g from hk];exact h.base.2.1))
 blk:=h.blk.keptS hk h.ne.1
 src:=hs
 off:=h.off
 st:=h.st.kept hk (fun k hk e => by
  rcases hk with rfl | hk
  ·exact h.ne.2.2.2.1 (show K.gs=K.g from e).symm
  ·exact (h.neB k hk).2.1 e)
 map:=h.map.kept hk (fun e => h.ne.2.2.2.2.1 (show K.mw=K.g from e).symm)
 own:=recsAt_kept h.own hk h.own_off_src
 own0:=h.own0
 row:=ownsRow_kept h.row hk (fun k hk e => (h.neV k hk).2.1 e)
 out:=h.out
 bodies:=fun x hx => (h.bodies x hx).kept hk (fun h0 y hy e => (h.apart x hx h0 y hy).2 e)
 apart:=h.apart
 sp:=h.sp
 sq:=h.sq
 ne:=h.ne
 neB:=h.neB
 neV:=h.neV
 base:=h.base
 many:=h.many
 gl:=h.gl
 ol:=h.ol
 nl:=h.nl
 ll:=h.ll
theorem Rd.waits (h:Rd w0 w K a s mb v xs q n c) {s':RS} {q':Option Addr} {n' c':Nat} (hk:Kept (oneB K.mw) w w') (hm:MapK u8K w' K.mw (waitF s' q' n' c')) (ho:RecsAt w q' n' s'.own)
 (h1:s'.out=s.out) (h2:s'.glob=s.glob) (h3:s'.hasX=false → s'.own=[]) (h4:(∀ r ∈ s'.own,r.2.length≤1048576)∧s'.own.length≤1048576)
 (h5:∀ t,s'.name=some t → t.length≤1048576) (h6:∀ t,s'.link=some t → t.length≤1048576):Rd w0 w' K a s' mb v xs q' n' c' where
 bel:=h.bel.trans (hk.below h.bel.size (fun k hk => by rw [show k=K.mw from hk];exact h.base.2.2.2))
 blk:=h.blk.keptS hk h.ne.2.2.1
 src:=by
  obtain ⟨t,hs⟩:=h.src;exact ⟨t,hs.kept hk h.ne.2.2.2.2.1 (fun h0 y hy e => h.sp h0 y hy (.inr (.inr (.inl e)))) (fun h0 y hy e => h.sq h0 y hy (.inr (.inr (.inl e))))⟩
 off:=h.off
 st:=by
  rw [h2];refine h.st.kept hk (fun k hk e => ?_)
  rcases hk with rfl | hk
  ·exact h.ne.2.2.2.2.2 e
  ·exact (h.neB k hk).2.2.2.1 e
 map:=hm
 own:=recsAt_kept ho hk (fun h0 y hy e => recs_off_map h.map ho h0 hy e)
 own0:=h3
 row:=ownsRow_kept h.row hk (fun k hk e => (h.neV k hk).2.2.2.1 e)
 out:=by rw [h1];exact h.out
 bodies:=fun x hx => (h.bodies x hx).kept hk (fun h0 y hy e => (h.apart x hx h0 y hy).1 (.inr (.inr (.inl e))))
 apart:=h.apart
 sp:=h.sp
 sq:=h.sq
 ne:=h.ne
 neB:=h.neB
 neV:=h.neV
 base:=h.base
 many:=by rw [h1];exact h.many
 gl:=by rw [h2];exact h.gl
 ol:=h4
 nl:=h5
 ll:=h6
theorem Rd.globs (h:Rd w0 w K a s mb v xs q n c) {rs:RecL} {B:Nat} (hst:St w' K.gs (some B) (moreF (lastD s.glob) rs)) (hk:Kept (stB K.gs mb) w w') (hB:mb=some B ∨ w.heap.size≤B) (hl:∀ r ∈ rs,r.2.length≤1048576) :
 Rd w0 w' K a { s with glob:=s.glob++rs } (some B) v xs q n c:=by
 have hsz:=h.bel.size
 have oth:∀ k,k < w.heap.size → ¬ Ot K mb v k → ¬ Ot K (some B) v k:=fun k hlt hn e => by
  rcases e with e | e | e | e | e
  ·exact hn (.inl e)
  ·exact hn (.inr (.inl e))
  ·exact hn (.inr (.inr (.inl e)))
  ·rcases hB with hB | hB
   ·exact hn (.inr (.inr (.inr (.inl (hB.trans e)))))
   ·cases e;omega
  ·exact hn (.inr (.inr (.inr (.inr e))))
 have fromOt:∀ k,stB K.gs mb k → Ot K mb v k:=fun k hk => by
  rcases hk with rfl | hk
  ·exact .inr (.inl rfl)
  ·exact .inr (.inr (.inr (.inl hk)))
 obtain ⟨t,hs⟩:=h.src
 have hbt:∀ k,stB K.gs mb k → w0.heap.size≤k:=fun k hk => by
  rcases hk with rfl | hk
  ·exact h.base.2.2.1
  ·exact (h.neB k hk).2.2.2.2
 have hr:¬ stB K.gs mb K.r:=fun e => by
  rcases e with e | e
  ·exact h.ne.2.1 e
  ·exact (h.neB _ e).1 rfl
 have hg:¬ stB K.gs mb K.g:=fun e => by
  rcases e with e | e
  ·exact h.ne.2.2.2.1 e
  ·exact (h.neB _ e).2.1 rfl
 have hmw:¬ stB K.gs mb K.mw:=fun e => by
  rcases e with e | e
  ·exact h.ne.2.2.2.2.2 e.symm
  ·exact (h.neB _ e).2.2.2.1 rfl
 have hv:∀ k,v.ownBlock=some k → ¬ stB K.gs mb k:=fun k hk e => by
  rcases e with e | e
  ·exact (h.neV k hk).2.2.1 e
  ·exact (h.neV k hk).2.2.2.2 e
 exact {
  bel:=h.bel.trans (hk.below h.bel.size hbt)
  blk:=h.blk.keptS hk hr
  src:=⟨t,hs.kept hk hg (fun h0 y hy e => h.sp h0 y hy (fromOt _ e)) (fun h0 y hy e => h.sq h0 y hy (fromOt _ e))⟩
  off:=h.off
  st:=by rw [← lastD_more];exact hst
  map:=h.map.kept hk hmw
  own:=recsAt_kept h.own hk h.own_off_st
  own0:=h.own0
  row:=ownsRow_kept h.row hk hv
  out:=h.out
  bodies:=fun x hx => (h.bodies x hx).kept hk (fun h0 y hy e => (h.apart x hx h0 y hy).1 (fromOt _ e))
  apart:=fun x hx h0 y hy => ⟨oth _ (bat_lt (h.bodies x hx).bat h0 hy) (h.apart x hx h0 y hy).1,(h.apart x hx h0 y hy).2⟩
  sp:=fun h0 y hy => oth _ (bat_lt hs.bat h0 hy) (h.sp h0 y hy)
  sq:=fun h0 y hy => oth _ (iat_lt hs.iat h0 hy) (h.sq h0 y hy)
  ne:=h.ne
  neB:=fun b hb => by
   cases hb
   rcases hB with hB | hB
   ·exact h.neB B hB
   ·have h1:=h.blk.lt
    have h2:=hs.lt;have h3:=h.st.lt;have h4:=h.map.lt;exact ⟨by omega,by omega,by omega,by omega,by omega⟩
  neV:=fun b hb => by
   obtain ⟨h1,h2,h3,h4,h5⟩:=h.neV b hb;have hlt:=(h.row.lt b hb).2;refine ⟨h1,h2,h3,h4,fun e => ?_⟩
   rcases hB with hB | hB
   ·exact h5 (hB.trans e)
   ·cases e;omega
  base:=h.base
  many:=h.many
  gl:=fun r hr => by
   rcases List.mem_append.1 hr with hr | hr
   ·exact h.gl r hr
   ·exact hl r hr
  ol:=h.ol
  nl:=h.nl
  ll:=h.ll }
theorem Rd.map_added (h:Rd w0 w K a s mb v xs q n c) {v':Value} (hg:w.grownBy w' v.ownBlock):MapK u8K (w'.setCell ⟨K.r,3,none⟩ v') K.mw (waitF s q n c):=
 (h.map.kept ((Kept.refl _ w).grown hg (fun k hk => .inr hk):Kept (fun k => v.ownBlock=some k) w w') (fun e => (h.neV _ e).2.2.2.1 rfl)).kept ((Kept.refl (oneB K.r) w').setCell (a:=⟨K.r,3,none⟩) (.inr rfl) v') h.ne.2.2.1.symm
theorem Rd.added (h:Rd w0 w K a s mb v xs q n c) {v':Value} {y:MP} (hrow:w'.ownsRow w0.heap.size 26 8 v' (xs++[y]).length (flatM (xs++[y]))) (hg:w.grownBy w' v.ownBlock) (hnew:NewOr w v v')
 (hy:BodyAt w y) (hya:0 < y.m.body.length → ∀ z,y.p=some z → ¬ Ot K mb v z.block∧z.block≠K.g) (hm:s.out.length < 4096) {w2:World}
 (hmap:MapK u8K w2 K.mw (fun _ => none)) (hk3:Kept (oneB K.mw) (w'.setCell ⟨K.r,3,none⟩ v') w2) :
 Rd w0 w2 K a { s with out:=s.out++[y.m],own:=[],name:=none,link:=none,hasX:=false } mb v' (xs++[y]) none 0 0:=by
 have hk1:Kept (fun k => v.ownBlock=some k) w w':=(Kept.refl _ w).grown hg (fun k hk => .inr hk)
 have hk2:Kept (oneB K.r) w' (w'.setCell ⟨K.r,3,none⟩ v'):=(Kept.refl (oneB K.r) w').setCell (a:=⟨K.r,3,none⟩) (.inr rfl) v';have hk23:Kept (fun k => k=K.r ∨ k=K.mw) w' w2:=(hk2.mono (fun k hk => .inl hk)).trans (hk3.mono (fun k hk => .inr hk))
 have hk:Kept (fun k => v.ownBlock=some k ∨ k=K.r ∨ k=K.mw) w w2:=(hk1.mono (fun k hk => .inl hk)).trans (hk23.mono (fun k hk => .inr hk))
 have hvne:∀ k,v'.ownBlock=some k → (v.ownBlock=some k ∨ w.heap.size≤k):=hnew
 have fromT:∀ k,(v.ownBlock=some k ∨ k=K.r ∨ k=K.mw) → Ot K mb v k:=fun k hk => by
  rcases hk with hk | rfl | rfl
  ·exact .inr (.inr (.inr (.inr hk)))
  ·exact .inl rfl
  ·exact .inr (.inr (.inl rfl))
 have oth:∀ k,k < w.heap.size → ¬ Ot K mb v k → ¬ Ot K mb v' k:=fun k hlt hn e => by
  rcases e with e | e | e | e | e
  ·exact hn (.inl e)
  ·exact hn (.inr (.inl e))
  ·exact hn (.inr (.inr (.inl e)))
  ·exact hn (.inr (.inr (.inr (.inl e))))
  ·rcases hvne k e with e' | e'
   ·exact hn (.inr (.inr (.inr (.inr e'))))
   ·omega
 obtain ⟨t,hs⟩:=h.src;have h1:=h.blk.lt;have h2:=hs.lt;have h3:=h.st.lt;have h4:=h.map.lt
 have nv':∀ b,v'.ownBlock=some b → b≠K.r∧b≠K.g∧b≠K.gs∧b≠K.mw∧mb≠some b:=fun b hb => by
  rcases hvne b hb with e | e
  ·exact h.neV b e
  ·exact ⟨by omega,by omega,by omega,by omega,fun hm => by have:=h.st.ltB hm;omega⟩
 have nT:∀ k,k≠K.r → k≠K.mw → (∀ b,v.ownBlock=some b → k≠b) → ¬ (v.ownBlock=some k ∨ k=K.r ∨ k=K.mw):=fun k hr hw hn e => by
  rcases e with e | e | e
  ·exact hn k e rfl
  ·exact hr e
  ·exact hw e
 exact {
  bel:=h.bel.trans (hk.below h.bel.size (fun k hk => by
   rcases hk with hk | rfl | rfl
   ·exact (h.row.lt k hk).1
   ·exact h.base.1
   ·exact h.base.2.2.2))
  blk:=((h.blk.keptS hk1 (fun e => (h.neV _ e).1 rfl)).set 3 v' (by decide:3 < 4)).keptS hk3 h.ne.2.2.1
  src:=⟨t,hs.kept hk (nT _ h.ne.1.symm h.ne.2.2.2.2.1 (fun b hb e => (h.neV b hb).2.1 e.symm)) (fun h0 y hy e => h.sp h0 y hy (fromT _ e)) (fun h0 y hy e => h.sq h0 y hy (fromT _ e))⟩
  off:=h.off
  st:=h.st.kept hk (fun k hk => by
   rcases hk with rfl | hk
   ·exact nT _ h.ne.2.1.symm h.ne.2.2.2.2.2 (fun b hb e => (h.neV b hb).2.2.1 e.symm)
   ·exact nT _ (h.neB k hk).1 (h.neB k hk).2.2.2.1 (fun b hb e => (h.neV b hb).2.2.2.2 (by rw [← e];exact hk)))
  map:=by
   have:waitF { s with out:=s.out++[y.m],own:=[],name:=none,link:=none,hasX:=false } none 0 0=fun _ => none:=by
    funext k
    unfold waitF;simp
   rw [this];exact hmap
  own:=⟨rfl,fun h => by omega⟩
  own0:=fun _ => rfl
  row:=ownsRow_kept hrow hk23 (fun k hk e => by
   rcases e with e | e
   ·exact (nv' k hk).1 e
   ·exact (nv' k hk).2.2.2.1 e)
  out:=by rw [List.map_append,h.out];rfl
  bodies:=fun x hx => by
   rcases List.mem_append.1 hx with hx | hx
   ·exact (h.bodies x hx).kept hk (fun h0 y hy e => (h.apart x hx h0 y hy).1 (fromT _ e))
   ·rw [List.mem_singleton] at hx
    subst hx;exact hy.kept hk (fun h0 z hz e => (hya h0 z hz).1 (fromT _ e))
  apart:=fun x hx h0 z hz => by
   rcases List.mem_append.1 hx with hx | hx
   ·exact ⟨oth _ (bat_lt (h.bodies x hx).bat h0 hz) (h.apart x hx h0 z hz).1,(h.apart x hx h0 z hz).2⟩
   ·rw [List.mem_singleton] at hx
    subst hx;exact ⟨oth _ (bat_lt hy.bat h0 hz) (hya h0 z hz).1,(hya h0 z hz).2⟩
  sp:=fun h0 y hy => oth _ (bat_lt hs.bat h0 hy) (h.sp h0 y hy)
  sq:=fun h0 y hy => oth _ (iat_lt hs.iat h0 hy) (h.sq h0 y hy)
  ne:=h.ne
  neB:=h.neB
  neV:=nv'
  base:=h.base
  many:=by show (s.out++[y.m]).length≤4096;rw [List.length_append,List.length_singleton];omega
  gl:=h.gl
  ol:=⟨fun r hr => by simp at hr,by simp⟩
  nl:=fun t ht => by cases ht
  ll:=fun t ht => by cases ht }
end
end Go.Proofs.YtnpkcneojilmkaaGreatDoor.Mem
end
section
namespace Go.Proofs.YtnpkcneojilmkaaGreatDoor.Attr
open Go.ChangeShapes Go.WideShapes Go.ChangeAt Go.RowKit Go.Shelf Base Byt Txt Rec Bk Hp Head Go.Lib
set_option linter.unusedVariables false
set_option maxRecDepth 100000
theorem ret_headB {fn:Func} (hf:fn.results=#[.cell 6 41,.tmp 7]) (tmps:Array Value) (w:World) (g:Nat) (v:Value) (ht:tmps.getD 6 undef=.pointer (some ⟨g,0,none⟩)) (hv:tmps.getD 7 undef=v)
 (h:HeadV) (hb:Blk w g 41 (headC h)):(results fn tmps).run Tryz.prog w=.ok (.tuple #[.agg (headC h),v]) w:=by
 rw [results_cell_tmp hf,ht,hv];have hl:=load_head w g _ _ _ _ _ _ _ _ _ hb;simp only [asAddr,Sem.run_pure,hl,Result.andThen];rfl
theorem blk9 {w:World} {g:Nat} {h:HeadV} (hb:Blk w g 41 (headC h)) (a0 a1 a2 a3 a4 a5 a6 a7 a8:Value) :
 Blk (((((((((w.setCell ⟨g,0,none⟩ a0).setCell ⟨g,1,none⟩ a1).setCell ⟨g,2,none⟩ a2).setCell ⟨g,3,none⟩ a3).setCell ⟨g,4,none⟩ a4).setCell ⟨g,5,none⟩ a5).setCell ⟨g,6,none⟩ a6).setCell ⟨g,7,none⟩ a7).setCell ⟨g,8,none⟩ a8) g 41 #[a0,a1,a2,a3,a4,a5,a6,a7,a8]:=
 ((((((((hb.set 0 a0 (by show 0 < 9;decide)).set 1 a1 (by show 1 < 9;decide)).set 2 a2 (by show 2 < 9;decide)).set 3 a3 (by show 3 < 9;decide)).set 4 a4 (by show 4 < 9;decide)).set 5 a5 (by show 5 < 9;decide)).set 6 a6 (by show 6 < 9;decide)).set 7 a7 (by show 7 < 9;decide)).set 8 a8 (by show 8 < 9;decide)
theorem below9 {w w':World} {g:Nat} (hk:Below w.heap.size w w') (hg:w.heap.size≤g) (a0 a1 a2 a3 a4 a5 a6 a7 a8:Value) :
 Below w.heap.size w (((((((((w'.setCell ⟨g,0,none⟩ a0).setCell ⟨g,1,none⟩ a1).setCell ⟨g,2,none⟩ a2).setCell ⟨g,3,none⟩ a3).setCell ⟨g,4,none⟩ a4).setCell ⟨g,5,none⟩ a5).setCell ⟨g,6,none⟩ a6).setCell ⟨g,7,none⟩ a7).setCell ⟨g,8,none⟩ a8):=
 (((((((((hk.setCell (p:=⟨g,0,none⟩) hg a0).setCell (p:=⟨g,1,none⟩) hg a1).setCell (p:=⟨g,2,none⟩) hg a2).setCell (p:=⟨g,3,none⟩) hg a3).setCell (p:=⟨g,4,none⟩) hg a4).setCell (p:=⟨g,5,none⟩) hg a5).setCell (p:=⟨g,6,none⟩) hg a6).setCell (p:=⟨g,7,none⟩) hg a7).setCell (p:=⟨g,8,none⟩) hg a8)
def Mid (w wi:World) (h:HeadV):Prop:=Below w.heap.size w wi∧Blk wi w.heap.size 41 (headC h)∧Blk wi (w.heap.size+1) 41 (headC zeroH)
theorem Mid.below {w wi wj:World} {h:HeadV} (hm:Mid w wi h) (hb:Below wi.heap.size wi wj):Mid w wj h:=
 ⟨hm.1.trans (hb.mono hm.1.size),hm.2.1.below hb hm.2.1.lt,hm.2.2.below hb hm.2.2.lt⟩
theorem Mid.put {w wi wj:World} {h h':HeadV} (hm:Mid w wi h) (hk:Kept (oneB w.heap.size) wi wj) (hb:Blk wj w.heap.size 41 (headC h')):Mid w wj h':=
 ⟨hm.1.trans (hk.below hm.1.size (fun k hk => by have:k=w.heap.size:=hk;omega)),hb,hm.2.2.keptS hk (fun e => by have:w.heap.size+1=w.heap.size:=e;omega)⟩
set_option maxHeartbeats 4000000 in
theorem apply_any (s:Option Addr) (F:Glob) (h:HeadV) (p:Option Addr) (n c:Nat) (rs:RecL) (w:World) (hs:StP w s F) (hn:n≤4611686018427387904) (hr:RecsAt w p n rs)
 (hl:∀ i,i < 6 → (valueD F rs (keyT i)).length≤140737488351232) :
 Calls Tryz.prog 83 #[.pointer s,.agg (headC h),.slice p n c] w fun e w' => e=.returned (headA (applyD F rs h))∧Below w.heap.size w w':=by
 obtain ⟨V,hV⟩:∃ V:Nat → List UInt8,V=fun i => valueD F rs (keyT i):=⟨_,rfl⟩
 have CV:Hid (∀ (i:Nat) (wi:World),Below w.heap.size w wi → Calls Tryz.prog 111 #[.pointer s,.string (str (keyT i)),.slice p n c] wi fun e w' => e=.returned (.string (str (V i)))∧Below wi.heap.size wi w'):=
  Lib.hid (fun i wi hb => by rw [hV];exact value_any s F (keyT i) p n c rs wi (hs.below hb) hn (hr.below hb))
 have HL:Hid (∀ i,i < 6 → (V i).length≤140737488351232):=Lib.hid (by rw [hV];exact hl)
 rw [show applyD F rs h=applyV V h by rw [hV];rfl]
 clear hl hs hr hn hV;obtain ⟨U,hU⟩:∃ U:HeadV × Int,applyV V h=U:=⟨_,rfl⟩;rw [hU];have HU:=Lib.hid hU;clear hU;simp only [headC];obtain ⟨o0,ho0⟩:∃ o,numD1 false (V 0) h.uid=o:=⟨_,rfl⟩
 cases o0 with
 | none =>
   have N0:=Lib.hid ho0;clear ho0
   go_enter Tryz.func83,Tryz.ntmps83
   go_wp2_with fail
   have HM0:Hid (Mid w ((w.alloc (.cells (headC h) 41)).alloc (.cells (headC zeroH) 41)) h):=by
    have b1:=Blk.new (w.alloc (.cells (headC h) 41)) 41 (headC zeroH);rw [World.size_alloc] at b1;exact Lib.hid ⟨((Below.refl _ w).alloc (Nat.le_refl _) _).alloc (by simp) _,(Blk.new w 41 (headC h)).alloc _,b1⟩
   refine (CV.out 4 _ HM0.out.1).mono ?_
   rintro e w1 ⟨rfl,hb⟩;have HM1:=Lib.hid (HM0.out.below hb);clear hb HM0
   go_wp2_with fail
   refine (changeText_any (V 4) _ 0 _ (headC h) h.name w1 HM1.out.2.1 (by show 0 < 9;decide) rfl).mono ?_
   rintro e w2 ⟨rfl,hb,hk⟩;have HM2:=Lib.hid (HM1.out.put (h':={ h with name:=textD1 (V 4) h.name }) hk hb)
   clear hb hk HM1
   go_wp2_with fail
   refine (CV.out 5 _ HM2.out.1).mono ?_
   rintro e w3 ⟨rfl,hb⟩;have HM3:=Lib.hid (HM2.out.below hb);clear hb HM2
   go_wp2_with fail
   refine (changeText_any (V 5) _ 1 _ _ h.link w3 HM3.out.2.1 (by show 1 < 9;decide) rfl).mono ?_
   rintro e w4 ⟨rfl,hb,hk⟩;have HM4:=Lib.hid (HM3.out.put (h':={ h with name:=textD1 (V 4) h.name,link:=textD1 (V 5) h.link }) hk hb)
   clear hb hk HM3
   go_wp2_with fail
   refine (CV.out 0 _ HM4.out.1).mono ?_
   rintro e w5 ⟨rfl,hb⟩;have HM5:=Lib.hid (HM4.out.below hb);clear hb HM4
   go_wp2_with fail
   refine (changeNumber_any false (V 0) (HL.out 0 (by omega)) _ 4 _ _ h.uid w5 HM5.out.2.1 (by show 4 < 9;decide) rfl).mono ?_
   rw [N0.out];rintro e w6 ⟨rfl,hb,hk⟩;have HM6:=Lib.hid (HM5.out.put (h':={ h with name:=textD1 (V 4) h.name,link:=textD1 (V 5) h.link,uid:=0 }) hk hb)
   clear hb hk HM5;have b2:=HM6.out.2.2;have r0:=b2.cell 0;have r1:=b2.cell 1;have r2:=b2.cell 2;have r3:=b2.cell 3;have r4:=b2.cell 4;have r5:=b2.cell 5;have r6:=b2.cell 6;have r7:=b2.cell 7;have r8:=b2.cell 8;have f0:=b2.frozen 0;have f1:=b2.frozen 1;have f2:=b2.frozen 2;have f3:=b2.frozen 3;have f4:=b2.frozen 4;have f5:=b2.frozen 5;have f6:=b2.frozen 6;have f7:=b2.frozen 7;have f8:=b2.frozen 8;simp only [headC,zeroH,List.getElem?_toArray,List.getElem?_cons_zero,List.getElem?_cons_succ] at r0 r1 r2 r3 r4 r5 r6 r7 r8;clear b2;have E:Hid (U=(zeroH,4)):=Lib.hid (by rw [← HU.out];unfold applyV;simp only [N0.out])
   go_wp2
   refine bodyPost_ret (ret_headB rfl _ _ (w.heap.size+1) _ rfl rfl zeroH (blk9 HM6.out.2.2 _ _ _ _ _ _ _ _ _)) rfl ?_
   exact ⟨by rw [E.out];rfl,below9 HM6.out.1 (by omega) _ _ _ _ _ _ _ _ _⟩
 | some u =>
   have N0:=Lib.hid ho0;clear ho0;obtain ⟨o1,ho1⟩:∃ o,numD1 false (V 1) h.gid=o:=⟨_,rfl⟩
   cases o1 with
   | none =>
     have N1:=Lib.hid ho1;clear ho1
     go_enter Tryz.func83,Tryz.ntmps83
     go_wp2_with fail
     have HM0:Hid (Mid w ((w.alloc (.cells (headC h) 41)).alloc (.cells (headC zeroH) 41)) h):=by
      have b1:=Blk.new (w.alloc (.cells (headC h) 41)) 41 (headC zeroH);rw [World.size_alloc] at b1;exact Lib.hid ⟨((Below.refl _ w).alloc (Nat.le_refl _) _).alloc (by simp) _,(Blk.new w 41 (headC h)).alloc _,b1⟩
     refine (CV.out 4 _ HM0.out.1).mono ?_
     rintro e w1 ⟨rfl,hb⟩;have HM1:=Lib.hid (HM0.out.below hb);clear hb HM0
     go_wp2_with fail
     refine (changeText_any (V 4) _ 0 _ (headC h) h.name w1 HM1.out.2.1 (by show 0 < 9;decide) rfl).mono ?_
     rintro e w2 ⟨rfl,hb,hk⟩;have HM2:=Lib.hid (HM1.out.put (h':={ h with name:=textD1 (V 4) h.name }) hk hb)
     clear hb hk HM1
     go_wp2_with fail
     refine (CV.out 5 _ HM2.out.1).mono ?_
     rintro e w3 ⟨rfl,hb⟩;have HM3:=Lib.hid (HM2.out.below hb);clear hb HM2
     go_wp2_with fail
     refine (changeText_any (V 5) _ 1 _ _ h.link w3 HM3.out.2.1 (by show 1 < 9;decide) rfl).mono ?_
     rintro e w4 ⟨rfl,hb,hk⟩;have HM4:=Lib.hid (HM3.out.put (h':={ h with name:=textD1 (V 4) h.name,link:=textD1 (V 5) h.link }) hk hb)
     clear hb hk HM3
     go_wp2_with fail
     refine (CV.out 0 _ HM4.out.1).mono ?_
     rintro e w5 ⟨rfl,hb⟩;have HM5:=Lib.hid (HM4.out.below hb);clear hb HM4
     go_wp2_with fail
     refine (changeNumber_any false (V 0) (HL.out 0 (by omega)) _ 4 _ _ h.uid w5 HM5.out.2.1 (by show 4 < 9;decide) rfl).mono ?_
     rw [N0.out];rintro e w6 ⟨rfl,hb,hk⟩;have HM6:=Lib.hid (HM5.out.put (h':={ h with name:=textD1 (V 4) h.name,link:=textD1 (V 5) h.link,uid:=u }) hk hb)
     clear hb hk HM5
     go_wp2_with fail
     refine (CV.out 1 _ HM6.out.1).mono ?_
     rintro e w7 ⟨rfl,hb⟩;have HM7:=Lib.hid (HM6.out.below hb);clear hb HM6
     go_wp2_with fail
     refine (changeNumber_any false (V 1) (HL.out 1 (by omega)) _ 5 _ _ h.gid w7 HM7.out.2.1 (by show 5 < 9;decide) rfl).mono ?_
     rw [N1.out];rintro e w8 ⟨rfl,hb,hk⟩;have HM8:=Lib.hid (HM7.out.put (h':={ h with name:=textD1 (V 4) h.name,link:=textD1 (V 5) h.link,uid:=u,gid:=0 }) hk hb)
     clear hb hk HM7;have b2:=HM8.out.2.2;have r0:=b2.cell 0;have r1:=b2.cell 1;have r2:=b2.cell 2;have r3:=b2.cell 3;have r4:=b2.cell 4;have r5:=b2.cell 5;have r6:=b2.cell 6;have r7:=b2.cell 7;have r8:=b2.cell 8;have f0:=b2.frozen 0;have f1:=b2.frozen 1;have f2:=b2.frozen 2;have f3:=b2.frozen 3;have f4:=b2.frozen 4;have f5:=b2.frozen 5;have f6:=b2.frozen 6;have f7:=b2.frozen 7;have f8:=b2.frozen 8;simp only [headC,zeroH,List.getElem?_toArray,List.getElem?_cons_zero,List.getElem?_cons_succ] at r0 r1 r2 r3 r4 r5 r6 r7 r8;clear b2;have E:Hid (U=(zeroH,4)):=Lib.hid (by rw [← HU.out];unfold applyV;simp only [N0.out,N1.out])
     go_wp2
     refine bodyPost_ret (ret_headB rfl _ _ (w.heap.size+1) _ rfl rfl zeroH (blk9 HM8.out.2.2 _ _ _ _ _ _ _ _ _)) rfl ?_
     exact ⟨by rw [E.out];rfl,below9 HM8.out.1 (by omega) _ _ _ _ _ _ _ _ _⟩
   | some g =>
     have N1:=Lib.hid ho1;clear ho1;obtain ⟨o2,ho2⟩:∃ o,numD1 true (V 2) h.time=o:=⟨_,rfl⟩
     cases o2 with
     | none =>
       have N2:=Lib.hid ho2;clear ho2
       go_enter Tryz.func83,Tryz.ntmps83
       go_wp2_with fail
       have HM0:Hid (Mid w ((w.alloc (.cells (headC h) 41)).alloc (.cells (headC zeroH) 41)) h):=by
        have b1:=Blk.new (w.alloc (.cells (headC h) 41)) 41 (headC zeroH);rw [World.size_alloc] at b1;exact Lib.hid ⟨((Below.refl _ w).alloc (Nat.le_refl _) _).alloc (by simp) _,(Blk.new w 41 (headC h)).alloc _,b1⟩
       refine (CV.out 4 _ HM0.out.1).mono ?_
       rintro e w1 ⟨rfl,hb⟩;have HM1:=Lib.hid (HM0.out.below hb);clear hb HM0
       go_wp2_with fail
       refine (changeText_any (V 4) _ 0 _ (headC h) h.name w1 HM1.out.2.1 (by show 0 < 9;decide) rfl).mono ?_
       rintro e w2 ⟨rfl,hb,hk⟩;have HM2:=Lib.hid (HM1.out.put (h':={ h with name:=textD1 (V 4) h.name }) hk hb)
       clear hb hk HM1
       go_wp2_with fail
       refine (CV.out 5 _ HM2.out.1).mono ?_
       rintro e w3 ⟨rfl,hb⟩;have HM3:=Lib.hid (HM2.out.below hb);clear hb HM2
       go_wp2_with fail
       refine (changeText_any (V 5) _ 1 _ _ h.link w3 HM3.out.2.1 (by show 1 < 9;decide) rfl).mono ?_
       rintro e w4 ⟨rfl,hb,hk⟩;have HM4:=Lib.hid (HM3.out.put (h':={ h with name:=textD1 (V 4) h.name,link:=textD1 (V 5) h.link }) hk hb)
       clear hb hk HM3
       go_wp2_with fail
       refine (CV.out 0 _ HM4.out.1).mono ?_
       rintro e w5 ⟨rfl,hb⟩;have HM5:=Lib.hid (HM4.out.below hb);clear hb HM4
       go_wp2_with fail
       refine (changeNumber_any false (V 0) (HL.out 0 (by omega)) _ 4 _ _ h.uid w5 HM5.out.2.1 (by show 4 < 9;decide) rfl).mono ?_
       rw [N0.out];rintro e w6 ⟨rfl,hb,hk⟩;have HM6:=Lib.hid (HM5.out.put (h':={ h with name:=textD1 (V 4) h.name,link:=textD1 (V 5) h.link,uid:=u }) hk hb)
       clear hb hk HM5
       go_wp2_with fail
       refine (CV.out 1 _ HM6.out.1).mono ?_
       rintro e w7 ⟨rfl,hb⟩;have HM7:=Lib.hid (HM6.out.below hb);clear hb HM6
       go_wp2_with fail
       refine (changeNumber_any false (V 1) (HL.out 1 (by omega)) _ 5 _ _ h.gid w7 HM7.out.2.1 (by show 5 < 9;decide) rfl).mono ?_
       rw [N1.out];rintro e w8 ⟨rfl,hb,hk⟩;have HM8:=Lib.hid (HM7.out.put (h':={ h with name:=textD1 (V 4) h.name,link:=textD1 (V 5) h.link,uid:=u,gid:=g }) hk hb)
       clear hb hk HM7
       go_wp2_with fail
       refine (CV.out 2 _ HM8.out.1).mono ?_
       rintro e w9 ⟨rfl,hb⟩;have HM9:=Lib.hid (HM8.out.below hb);clear hb HM8
       go_wp2_with fail
       refine (changeNumber_any true (V 2) (HL.out 2 (by omega)) _ 6 _ _ h.time w9 HM9.out.2.1 (by show 6 < 9;decide) rfl).mono ?_
       rw [N2.out];rintro e w10 ⟨rfl,hb,hk⟩;have HM10:=Lib.hid (HM9.out.put (h':={ h with name:=textD1 (V 4) h.name,link:=textD1 (V 5) h.link,uid:=u,gid:=g,time:=0 }) hk hb)
       clear hb hk HM9;have b2:=HM10.out.2.2;have r0:=b2.cell 0;have r1:=b2.cell 1;have r2:=b2.cell 2;have r3:=b2.cell 3;have r4:=b2.cell 4;have r5:=b2.cell 5;have r6:=b2.cell 6;have r7:=b2.cell 7;have r8:=b2.cell 8;have f0:=b2.frozen 0;have f1:=b2.frozen 1;have f2:=b2.frozen 2;have f3:=b2.frozen 3;have f4:=b2.frozen 4;have f5:=b2.frozen 5;have f6:=b2.frozen 6;have f7:=b2.frozen 7;have f8:=b2.frozen 8;simp only [headC,zeroH,List.getElem?_toArray,List.getElem?_cons_zero,List.getElem?_cons_succ] at r0 r1 r2 r3 r4 r5 r6 r7 r8;clear b2;have E:Hid (U=(zeroH,4)):=Lib.hid (by rw [← HU.out];unfold applyV;simp only [N0.out,N1.out,N2.out])
       go_wp2
       refine bodyPost_ret (ret_headB rfl _ _ (w.heap.size+1) _ rfl rfl zeroH (blk9 HM10.out.2.2 _ _ _ _ _ _ _ _ _)) rfl ?_
       exact ⟨by rw [E.out];rfl,below9 HM10.out.1 (by omega) _ _ _ _ _ _ _ _ _⟩
     | some t =>
       have N2:=Lib.hid ho2;clear ho2;obtain ⟨o3,ho3⟩:∃ o,numD1 false (V 3) h.size=o:=⟨_,rfl⟩
       cases o3 with
       | none =>
         have N3:=Lib.hid ho3;clear ho3
         go_enter Tryz.func83,Tryz.ntmps83
         go_wp2_with fail
         have HM0:Hid (Mid w ((w.alloc (.cells (headC h) 41)).alloc (.cells (headC zeroH) 41)) h):=by
          have b1:=Blk.new (w.alloc (.cells (headC h) 41)) 41 (headC zeroH);rw [World.size_alloc] at b1;exact Lib.hid ⟨((Below.refl _ w).alloc (Nat.le_refl _) _).alloc (by simp) _,(Blk.new w 41 (headC h)).alloc _,b1⟩
         refine (CV.out 4 _ HM0.out.1).mono ?_
         rintro e w1 ⟨rfl,hb⟩;have HM1:=Lib.hid (HM0.out.below hb);clear hb HM0
         go_wp2_with fail
         refine (changeText_any (V 4) _ 0 _ (headC h) h.name w1 HM1.out.2.1 (by show 0 < 9;decide) rfl).mono ?_
         rintro e w2 ⟨rfl,hb,hk⟩;have HM2:=Lib.hid (HM1.out.put (h':={ h with name:=textD1 (V 4) h.name }) hk hb)
         clear hb hk HM1
         go_wp2_with fail
         refine (CV.out 5 _ HM2.out.1).mono ?_
         rintro e w3 ⟨rfl,hb⟩;have HM3:=Lib.hid (HM2.out.below hb);clear hb HM2
         go_wp2_with fail
         refine (changeText_any (V 5) _ 1 _ _ h.link w3 HM3.out.2.1 (by show 1 < 9;decide) rfl).mono ?_
         rintro e w4 ⟨rfl,hb,hk⟩;have HM4:=Lib.hid (HM3.out.put (h':={ h with name:=textD1 (V 4) h.name,link:=textD1 (V 5) h.link }) hk hb)
         clear hb hk HM3
         go_wp2_with fail
         refine (CV.out 0 _ HM4.out.1).mono ?_
         rintro e w5 ⟨rfl,hb⟩;have HM5:=Lib.hid (HM4.out.below hb);clear hb HM4
         go_wp2_with fail
         refine (changeNumber_any false (V 0) (HL.out 0 (by omega)) _ 4 _ _ h.uid w5 HM5.out.2.1 (by show 4 < 9;decide) rfl).mono ?_
         rw [N0.out];rintro e w6 ⟨rfl,hb,hk⟩;have HM6:=Lib.hid (HM5.out.put (h':={ h with name:=textD1 (V 4) h.name,link:=textD1 (V 5) h.link,uid:=u }) hk hb)
         clear hb hk HM5
         go_wp2_with fail
         refine (CV.out 1 _ HM6.out.1).mono ?_
         rintro e w7 ⟨rfl,hb⟩;have HM7:=Lib.hid (HM6.out.below hb);clear hb HM6
         go_wp2_with fail
         refine (changeNumber_any false (V 1) (HL.out 1 (by omega)) _ 5 _ _ h.gid w7 HM7.out.2.1 (by show 5 < 9;decide) rfl).mono ?_
         rw [N1.out];rintro e w8 ⟨rfl,hb,hk⟩;have HM8:=Lib.hid (HM7.out.put (h':={ h with name:=textD1 (V 4) h.name,link:=textD1 (V 5) h.link,uid:=u,gid:=g }) hk hb)
         clear hb hk HM7
         go_wp2_with fail
         refine (CV.out 2 _ HM8.out.1).mono ?_
         rintro e w9 ⟨rfl,hb⟩;have HM9:=Lib.hid (HM8.out.below hb);clear hb HM8
         go_wp2_with fail
         refine (changeNumber_any true (V 2) (HL.out 2 (by omega)) _ 6 _ _ h.time w9 HM9.out.2.1 (by show 6 < 9;decide) rfl).mono ?_
         rw [N2.out];rintro e w10 ⟨rfl,hb,hk⟩;have HM10:=Lib.hid (HM9.out.put (h':={ h with name:=textD1 (V 4) h.name,link:=textD1 (V 5) h.link,uid:=u,gid:=g,time:=t }) hk hb)
         clear hb hk HM9
         go_wp2_with fail
         refine (CV.out 3 _ HM10.out.1).mono ?_
         rintro e w11 ⟨rfl,hb⟩;have HM11:=Lib.hid (HM10.out.below hb);clear hb HM10
         go_wp2_with fail
         refine (changeNumber_any false (V 3) (HL.out 3 (by omega)) _ 7 _ _ h.size w11 HM11.out.2.1 (by show 7 < 9;decide) rfl).mono ?_
         rw [N3.out];rintro e w12 ⟨rfl,hb,hk⟩;have HM12:=Lib.hid (HM11.out.put (h':={ h with name:=textD1 (V 4) h.name,link:=textD1 (V 5) h.link,uid:=u,gid:=g,time:=t,size:=0 }) hk hb)
         clear hb hk HM11;have b2:=HM12.out.2.2;have r0:=b2.cell 0;have r1:=b2.cell 1;have r2:=b2.cell 2;have r3:=b2.cell 3;have r4:=b2.cell 4;have r5:=b2.cell 5;have r6:=b2.cell 6;have r7:=b2.cell 7;have r8:=b2.cell 8;have f0:=b2.frozen 0;have f1:=b2.frozen 1;have f2:=b2.frozen 2;have f3:=b2.frozen 3;have f4:=b2.frozen 4;have f5:=b2.frozen 5;have f6:=b2.frozen 6;have f7:=b2.frozen 7;have f8:=b2.frozen 8;simp only [headC,zeroH,List.getElem?_toArray,List.getElem?_cons_zero,List.getElem?_cons_succ] at r0 r1 r2 r3 r4 r5 r6 r7 r8;clear b2;have E:Hid (U=(zeroH,4)):=Lib.hid (by rw [← HU.out];unfold applyV;simp only [N0.out,N1.out,N2.out,N3.out])
         go_wp2
         refine bodyPost_ret (ret_headB rfl _ _ (w.heap.size+1) _ rfl rfl zeroH (blk9 HM12.out.2.2 _ _ _ _ _ _ _ _ _)) rfl ?_
         exact ⟨by rw [E.out];rfl,below9 HM12.out.1 (by omega) _ _ _ _ _ _ _ _ _⟩
       | some z =>
         have N3:=Lib.hid ho3;clear ho3
         go_enter Tryz.func83,Tryz.ntmps83
         go_wp2_with fail
         have HM0:Hid (Mid w ((w.alloc (.cells (headC h) 41)).alloc (.cells (headC zeroH) 41)) h):=by
          have b1:=Blk.new (w.alloc (.cells (headC h) 41)) 41 (headC zeroH);rw [World.size_alloc] at b1;exact Lib.hid ⟨((Below.refl _ w).alloc (Nat.le_refl _) _).alloc (by simp) _,(Blk.new w 41 (headC h)).alloc _,b1⟩
         refine (CV.out 4 _ HM0.out.1).mono ?_
         rintro e w1 ⟨rfl,hb⟩;have HM1:=Lib.hid (HM0.out.below hb);clear hb HM0
         go_wp2_with fail
         refine (changeText_any (V 4) _ 0 _ (headC h) h.name w1 HM1.out.2.1 (by show 0 < 9;decide) rfl).mono ?_
         rintro e w2 ⟨rfl,hb,hk⟩;have HM2:=Lib.hid (HM1.out.put (h':={ h with name:=textD1 (V 4) h.name }) hk hb)
         clear hb hk HM1
         go_wp2_with fail
         refine (CV.out 5 _ HM2.out.1).mono ?_
         rintro e w3 ⟨rfl,hb⟩;have HM3:=Lib.hid (HM2.out.below hb);clear hb HM2
         go_wp2_with fail
         refine (changeText_any (V 5) _ 1 _ _ h.link w3 HM3.out.2.1 (by show 1 < 9;decide) rfl).mono ?_
         rintro e w4 ⟨rfl,hb,hk⟩;have HM4:=Lib.hid (HM3.out.put (h':={ h with name:=textD1 (V 4) h.name,link:=textD1 (V 5) h.link }) hk hb)
         clear hb hk HM3
         go_wp2_with fail
         refine (CV.out 0 _ HM4.out.1).mono ?_
         rintro e w5 ⟨rfl,hb⟩;have HM5:=Lib.hid (HM4.out.below hb);clear hb HM4
         go_wp2_with fail
         refine (changeNumber_any false (V 0) (HL.out 0 (by omega)) _ 4 _ _ h.uid w5 HM5.out.2.1 (by show 4 < 9;decide) rfl).mono ?_
         rw [N0.out];rintro e w6 ⟨rfl,hb,hk⟩;have HM6:=Lib.hid (HM5.out.put (h':={ h with name:=textD1 (V 4) h.name,link:=textD1 (V 5) h.link,uid:=u }) hk hb)
         clear hb hk HM5
         go_wp2_with fail
         refine (CV.out 1 _ HM6.out.1).mono ?_
         rintro e w7 ⟨rfl,hb⟩;have HM7:=Lib.hid (HM6.out.below hb);clear hb HM6
         go_wp2_with fail
         refine (changeNumber_any false (V 1) (HL.out 1 (by omega)) _ 5 _ _ h.gid w7 HM7.out.2.1 (by show 5 < 9;decide) rfl).mono ?_
         rw [N1.out];rintro e w8 ⟨rfl,hb,hk⟩;have HM8:=Lib.hid (HM7.out.put (h':={ h with name:=textD1 (V 4) h.name,link:=textD1 (V 5) h.link,uid:=u,gid:=g }) hk hb)
         clear hb hk HM7
         go_wp2_with fail
         refine (CV.out 2 _ HM8.out.1).mono ?_
         rintro e w9 ⟨rfl,hb⟩;have HM9:=Lib.hid (HM8.out.below hb);clear hb HM8
         go_wp2_with fail
         refine (changeNumber_any true (V 2) (HL.out 2 (by omega)) _ 6 _ _ h.time w9 HM9.out.2.1 (by show 6 < 9;decide) rfl).mono ?_
         rw [N2.out];rintro e w10 ⟨rfl,hb,hk⟩;have HM10:=Lib.hid (HM9.out.put (h':={ h with name:=textD1 (V 4) h.name,link:=textD1 (V 5) h.link,uid:=u,gid:=g,time:=t }) hk hb)
         clear hb hk HM9
         go_wp2_with fail
         refine (CV.out 3 _ HM10.out.1).mono ?_
         rintro e w11 ⟨rfl,hb⟩;have HM11:=Lib.hid (HM10.out.below hb);clear hb HM10
         go_wp2_with fail
         refine (changeNumber_any false (V 3) (HL.out 3 (by omega)) _ 7 _ _ h.size w11 HM11.out.2.1 (by show 7 < 9;decide) rfl).mono ?_
         rw [N3.out];rintro e w12 ⟨rfl,hb,hk⟩;have HM12:=Lib.hid (HM11.out.put (h':={ h with name:=textD1 (V 4) h.name,link:=textD1 (V 5) h.link,uid:=u,gid:=g,time:=t,size:=z }) hk hb)
         clear hb hk HM11;have b2:=HM12.out.2.2;have r0:=b2.cell 0;have r1:=b2.cell 1;have r2:=b2.cell 2;have r3:=b2.cell 3;have r4:=b2.cell 4;have r5:=b2.cell 5;have r6:=b2.cell 6;have r7:=b2.cell 7;have r8:=b2.cell 8;have f0:=b2.frozen 0;have f1:=b2.frozen 1;have f2:=b2.frozen 2;have f3:=b2.frozen 3;have f4:=b2.frozen 4;have f5:=b2.frozen 5;have f6:=b2.frozen 6;have f7:=b2.frozen 7;have f8:=b2.frozen 8;simp only [headC,zeroH,List.getElem?_toArray,List.getElem?_cons_zero,List.getElem?_cons_succ] at r0 r1 r2 r3 r4 r5 r6 r7 r8;clear b2;have b1:=HM12.out.2.1
         have c0:=b1.cell 0;have c1:=b1.cell 1;have c2:=b1.cell 2;have c3:=b1.cell 3;have c4:=b1.cell 4;have c5:=b1.cell 5;have c6:=b1.cell 6;have c7:=b1.cell 7;have c8:=b1.cell 8;simp only [headC,List.getElem?_toArray,List.getElem?_cons_zero,List.getElem?_cons_succ] at c0 c1 c2 c3 c4 c5 c6 c7 c8;clear b1;have E:Hid (U=({ h with name:=textD1 (V 4) h.name,link:=textD1 (V 5) h.link,uid:=u,gid:=g,time:=t,size:=z },0)):=Lib.hid (by rw [← HU.out];unfold applyV;simp only [N0.out,N1.out,N2.out,N3.out])
         go_wp2
         refine bodyPost_ret (ret_headB rfl _ _ (w.heap.size+1) _ rfl rfl { h with name:=textD1 (V 4) h.name,link:=textD1 (V 5) h.link,uid:=u,gid:=g,time:=t,size:=z } (blk9 HM12.out.2.2 _ _ _ _ _ _ _ _ _)) rfl ?_
         exact ⟨by rw [E.out];rfl,below9 HM12.out.1 (by omega) _ _ _ _ _ _ _ _ _⟩
end Go.Proofs.YtnpkcneojilmkaaGreatDoor.Attr
end
