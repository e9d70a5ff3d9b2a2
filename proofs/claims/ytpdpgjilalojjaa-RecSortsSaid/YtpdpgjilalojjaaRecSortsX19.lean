/- Texts of this seat, merged: what the proof reaches. -/
import Derived.Test.YtpdpgjilalojjaaRecSortsX16
import Derived.Test.YtpdpgjilalojjaaRecSortsX8
import Derived.WalkSpells
import Derived.Test.YtpdpgjilalojjaaRecSortsX18
namespace Go.Proofs.Ytpdpgjilalojjaa
namespace Base
end Base
namespace Bk
end Bk
namespace Block
end Block
namespace Byt
end Byt
namespace Itm
end Itm
namespace Mem
end Mem
namespace Rec
end Rec
namespace Tre
end Tre
namespace Txt
end Txt
end Go.Proofs.Ytpdpgjilalojjaa
section
namespace Go.Proofs.Ytpdpgjilalojjaa.Itm
open Go.ChangeShapes Go.WideShapes Go.ChangeAt Go.RowKit Base Byt Txt Bk Rec Block Mem Tre Go.Lib
set_option linter.unusedVariables false
set_option maxRecDepth 100000
theorem ins0_any (w:World) (q:Option Addr) (d:Nat) :
 Calls Try.prog 39 #[.slice q 0 d,.int .i64 0,.int .i64 0,ordV] w fun e w' => e=.returned (.tuple #[])∧w=w':=by
 go_enter Try.func39,Try.ntmps39
 go_wp2_with fail
 refine wp_loop_rounds 1 ?_
 rw [rounds_succ]
 go_wp2
 go_end0
 exact ⟨rfl,rfl⟩
theorem stb0_any (w:World) (q:Option Addr) (d:Nat) :
 Calls Try.prog 38 #[.slice q 0 d,.int .i64 0,ordV] w fun e w' => e=.returned (.tuple #[])∧w=w':=by
 have HC:=Lib.hid (ins0_any w q d)
 go_enter Try.func38,Try.ntmps38
 go_wp2_with fail
 refine wp_loop_rounds 1 ?_
 rw [rounds_succ]
 go_wp2_with fail
 refine HC.out.mono ?_
 rintro e w1 ⟨rfl,rfl⟩
 go_wp2_with fail
 refine wp_loop_rounds 1 ?_
 rw [rounds_succ]
 go_wp2
 go_end0
 exact ⟨rfl,rfl⟩
theorem stable0_any (w:World) (q:Option Addr) (d:Nat) :
 Calls Try.prog 34 #[.slice q 0 d,ordV] w fun e w' => e=.returned (.tuple #[])∧w=w':=by
 have HC:=Lib.hid (stb0_any w q d)
 go_enter Try.func34,Try.ntmps34
 go_wp2_with fail
 refine HC.out.mono ?_
 rintro e w1 ⟨rfl,rfl⟩
 go_wp2
 go_end0
 exact ⟨rfl,rfl⟩
def CloneIPost (w:World) (n:Nat) (xs:List IP) (e:Ending) (w':World):Prop:=
 ∃ q d,e=.returned (.slice q n d)∧n≤d∧d≤maxLen∧(0 < n → ∃ g,q=some ⟨g,0,none⟩∧w.heap.size≤g∧Ri w' g xs)∧Below w.heap.size w w'
set_option maxHeartbeats 1000000 in
theorem cloneI_any (w:World) (p:Option Addr) (n c:Nat) (xs:List IP) (h:ItemsAt w p n xs) (hn:n≤1000) :
 Calls Try.prog 33 #[.slice p n c] w (CloneIPost w n xs):=by
 have HM:=Lib.hid h;have HL:=Lib.hid h.1;have hq:∀ w,(binOp .eql 26 (.slice p n c) (.slice none 0 0)).run Try.prog w=.ok (.bool p.isNone) w:=fun w => Lib.run_eql_slice_nil w 26 24 p n c 0 0 Try.underlying26
 clear h
 go_enter Try.func33,Try.ntmps33
 cases p with
 | none =>
   have h0:n=0:=by
    rcases Nat.eq_zero_or_pos n with h0 | h0
    ·exact h0
    ·obtain ⟨_,_,he,_⟩:=HM.out.2.2 h0
     cases he
   subst h0
   go_wp2
   go_ret
   exact ⟨none,0,rfl,Nat.le_refl _,by decide,fun h => by omega,Below.refl _ _⟩
 | some a =>
   go_wp2_with (at_builtin;refine append_items rfl _ _ rfl w.heap.size _ 0 [] rfl rfl (World.ownsRow_made w #[] 0 (Nat.le_refl _) (by decide) rfl) (some a) n c xs rfl (HM.out.below ((Below.refl _ _).alloc (Nat.le_refl _) _)) ?b1 ?b2 ?_)
   case b1 => omega
   case b2 => simp
   intro v1 w1 hown hgrow;have hk1:Kept noneB w w1:=(((Kept.refl noneB w).alloc _)).grown hgrow (by intro k hk;simp [Value.ownBlock] at hk;omega)
   have hb1:Below w.heap.size w w1:=hk1.below (Nat.le_refl _) (fun _ h => h.elim)
   obtain ⟨q,c1,rfl,hc1,hc2,_⟩:=items_own hown (fun y hy => (HM.out.2.1 y hy).below hb1)
   have hrow:0 < n → ∃ g,q=some ⟨g,0,none⟩∧w.heap.size≤g∧Ri w1 g xs:=fun h0 => by
    obtain ⟨g,c2,he,hB,_,_,hrc⟩:=ri_own hown (by rw [HL.out];exact h0)
    cases he
    exact ⟨g,rfl,hB,hrc⟩
   rw [HL.out] at hc1 ⊢;have P:=Lib.hid (And.intro hc1 (And.intro hc2 (And.intro hrow hb1)));clear hown hgrow hk1 hb1 hc1 hc2 hrow
   go_wp2
   go_ret
   exact ⟨q,c1,rfl,P.out⟩
theorem Ri.data {W:World} {g:Nat} {ys:List IP} (h:Ri W g ys) {k:Nat} (hk:k < ys.length) (p:Option Addr) (c:Nat) :
 Ri (W.setCell ⟨g,k * 3+2,none⟩ (.slice p (ys.getD k zeroJ).m.data.length c)) g (ys.set k ⟨(ys.getD k zeroJ).m,p,c⟩):=by
 obtain ⟨cur,hb,hs,hc⟩:=h;refine ⟨_,blk_setIf hb (k * 3+2) _,by rw [List.length_set,Array.size_setIfInBounds];exact hs,fun i hi j hj => ?_⟩
 rw [List.length_set] at hi;rw [getSetJ ys k i _ hk,Array.getElem?_setIfInBounds]
 by_cases hik:i=k
 ·subst hik
  rw [if_pos rfl]
  by_cases h2:j=2
  ·subst h2
   rw [if_pos (by omega),if_pos (by omega)]
   rfl
  ·rw [if_neg (by omega),hc i hi j hj]
   rcases (show j=0 ∨ j=1 by omega) with rfl | rfl<;>rfl
 ·rw [if_neg hik,if_neg (by omega),hc i hi j hj]
structure CJ (w wr:World) (g n:Nat) (xs:List IP) (k:Nat) (zs:List IP):Prop where
 bel:Below w.heap.size w wr
 new:w.heap.size≤g
 row:Ri wr g zs
 len:zs.length=n
 says:zs.map IP.m=xs.map IP.m
 dat:∀ y ∈ zs,DatAt wr y
 off:∀ y ∈ zs,0 < y.m.data.length → ∀ z,y.p=some z → z.block≠g
 own:∀ i,i < k → 0 < (zs.getD i zeroJ).m.data.length → ∀ z,(zs.getD i zeroJ).p=some z → w.heap.size≤z.block
theorem set_same_map {zs:List IP} {k:Nat} (hk:k < zs.length) (p:Option Addr) (c:Nat):(zs.set k ⟨(zs.getD k zeroJ).m,p,c⟩).map IP.m=zs.map IP.m:=by
 apply List.ext_getElem (by simp)
 intro i h1 h2;simp only [List.getElem_map,List.getElem_set]
 split
 ·next e => subst e;rw [getJ_eq hk]
 ·rfl
theorem CJ.step {w wr w1:World} {g n k:Nat} {xs zs:List IP} (h:CJ w wr g n xs k zs) (hk:k < n) (hkp:Kept noneB wr w1) {p:Option Addr} {m c:Nat} (hm:(zs.getD k zeroJ).m.data.length=m) (hle:m≤c) (hmx:c≤maxLen) (hb:BAt w1 p m (zs.getD k zeroJ).m.data) (hat:∀ z,p=some z → wr.heap.size≤z.block) :
 CJ w (w1.setCell ⟨g,k * 3+2,none⟩ (.slice p m c)) g n xs (k+1) (zs.set k ⟨(zs.getD k zeroJ).m,p,c⟩):=by
 subst hm
 have hg:g < wr.heap.size:=by
  obtain ⟨cur,hb,_⟩:=h.row;exact hb.lt
 have hkl:k < zs.length:=by rw [h.len];exact hk
 have hb1:Below wr.heap.size wr w1:=hkp.below (Nat.le_refl _) (fun _ h => h.elim)
 have hK:Kept (oneB g) w1 (w1.setCell ⟨g,k * 3+2,none⟩ (.slice p (zs.getD k zeroJ).m.data.length c)):=(Kept.refl (oneB g) w1).setCell (a:=⟨g,k * 3+2,none⟩) (.inr rfl) _
 have hoff:∀ y ∈ zs.set k ⟨(zs.getD k zeroJ).m,p,c⟩,0 < y.m.data.length → ∀ z,y.p=some z → z.block≠g:=fun y hy h0 z hz => by
  rcases List.mem_or_eq_of_mem_set hy with hy | rfl
  ·exact h.off y hy h0 z hz
  ·have:=hat z hz;omega
 refine ⟨(h.bel.trans (hb1.mono h.bel.size)).setCell (p:=⟨g,k * 3+2,none⟩) h.new _,h.new,(ri_below h.row hb1).data hkl p c,by rw [List.length_set];exact h.len,by rw [set_same_map hkl,h.says],fun y hy => ?_,hoff,fun i hi h0 z hz => ?_⟩
 ·have h1:DatAt w1 y:=by
   rcases List.mem_or_eq_of_mem_set hy with hy | rfl
   ·exact (h.dat y hy).below hb1
   ·exact ⟨hb,hle,hmx⟩
  exact h1.kept hK (fun h0 z hz e => hoff y hy h0 z hz e)
 ·rw [getSetJ zs k i _ hkl] at h0 hz
  by_cases e:i=k
  ·subst e
   rw [if_pos rfl] at hz;have:=hat z hz;have:=h.bel.size;omega
  ·rw [if_neg e] at h0 hz
   exact h.own i (by omega) h0 z hz
set_option maxHeartbeats 2000000 in
theorem sortedI_any (w:World) (p:Option Addr) (n c:Nat) (xs:List IP) (h:ItemsAt w p n xs) (hn:n≤1000) (hR:∀ x ∈ xs,x.m.data.length≤1000000) :
 Calls Try.prog 20 #[.slice p n c] w (SortIPost w n xs):=by
 have HC:=Lib.hid (cloneI_any w p n c xs h hn);have HM:=Lib.hid h
 have HR:Hid (∀ y ∈ xs.map IP.m,y.data.length≤1000000):=Lib.hid (fun y hy => by
  obtain ⟨x,hx,rfl⟩:=List.mem_map.1 hy
  exact hR x hx)
 clear h hR
 go_enter Try.func20,Try.ntmps20
 go_wp2_with fail
 refine HC.out.mono ?_
 rintro e w1 ⟨q,d,rfl,hnd,hd,hrow,hb1⟩;have HB1:=Lib.hid hb1;have HD:=Lib.hid (And.intro hnd hd);have HROW:=Lib.hid hrow;clear HC hb1 hrow hd
 by_cases h0:0 < n
 ·obtain ⟨g,rfl,hg,hri⟩:=HROW.out h0
  have HJ:Hid (CJ w w1 g n xs 0 xs):=Lib.hid
   { bel:=HB1.out
     new:=hg
     row:=hri
     len:=HM.out.1
     says:=rfl
     dat:=fun y hy => (HM.out.2.1 y hy).below HB1.out
     off:=fun y hy h1 z hz => by have:=bat_lt (HM.out.2.1 y hy).bat h1 hz;omega
     own:=fun i hi => by omega }
  clear hg hri HROW
  go_wp2_with fail
  go_loopw [9] (fun i wr => ∃ (k:Nat) (zs:List IP),k≤n∧i=.int .i64 (k:Int)∧Hid (CJ w wr g n xs k zs)) (fun i _ => n - (RowKit.intOf i).toNat)
  case atStart => exact ⟨0,xs,Nat.zero_le _,rfl,HJ⟩
  case round =>
   obtain ⟨k,zs,hk,rfl,hO⟩:=hrel
   by_cases hlt:k < n
   ·have hltz:(k:Int) < (n:Int):=by omega
    have hzl:zs.length=n:=hO.out.len;obtain ⟨_,_,c2⟩:=hO.out.row.cells3 (show k < zs.length by omega)
    obtain ⟨cur,hbk,_,_⟩:=hO.out.row;have HBK:=Lib.hid hbk;have hmem:=getJ_mem zs k (by omega)
    have hdat:=hO.out.dat _ hmem;have hsz:(zs.getD k zeroJ).m.data.length≤1000000:=HR.out _ (by rw [← hO.out.says];exact List.mem_map_of_mem hmem)
    have HCL:=Lib.hid (Go.Proofs.Ytpdpgjilalojjaa.Block.clone_any wr (zs.getD k zeroJ).p (zs.getD k zeroJ).m.data.length (zs.getD k zeroJ).c (zs.getD k zeroJ).m.data hdat.bat rfl (by omega))
    obtain ⟨m,hm⟩:∃ m,(zs.getD k zeroJ).m.data.length=m:=⟨_,rfl⟩;obtain ⟨u,hu⟩:∃ u,(zs.getD k zeroJ).p=u:=⟨_,rfl⟩;obtain ⟨v,hv⟩:∃ v,(zs.getD k zeroJ).c=v:=⟨_,rfl⟩;have HMM:=Lib.hid hm;rw [hm,hu,hv] at c2 HCL;clear hm hu hv hbk hmem hdat hsz hzl
    go_wp2_with fail
    refine HCL.out.mono ?_
    rintro e w2 ⟨v2,rfl,ho2,hk2⟩;obtain ⟨p2,c3,rfl,hle2,hmx2,hbt2,hln2,hat2⟩:=OwnB.slice ho2;have hlt2:=HBK.out.below (hk2.below (Nat.le_refl _) (fun _ h => h.elim)) HBK.out.lt
    have f2:=hlt2.frozen (k * 3+2);have x2:=hlt2.cell (k * 3+2);have HST:=Lib.hid (hO.out.step hlt hk2 HMM.out hle2 hmx2 hbt2 (fun z hz => (hat2 z hz).1))
    rw [← hlt2.cell,(show w2.cell? ⟨g,k * 3+2,none⟩=some (.slice u m v) by
     rw [hlt2.cell,← HBK.out.cell];exact c2)] at x2
    have x3:w2.cell? ⟨g,k * 3+2,none⟩=some (.slice u m v):=by rw [hlt2.cell,← HBK.out.cell];exact c2
    clear x2 ho2 hk2 hle2 hmx2 hbt2 hln2 hat2 hlt2 c2
    go_wp2
    go_roundw
    case rel => exact ⟨k+1,_,by omega,by go_num,HST⟩
    case measure => simp [RowKit.intOf];omega
   ·obtain rfl:k=n:=by omega
    have hks:¬ ((k:Int) < (k:Int)):=by omega
    have HS:=Lib.hid (stableR_any wr g k d zs hO.out.row hO.out.len hnd hn)
    go_wp2_with fail
    refine HS.out.mono ?_
    rintro e w2 ⟨rfl,z2,h2⟩;have H2:=Lib.hid h2;clear h2
    go_wp2
    go_ret
    have hj:=hO.out;have hs:=H2.out;rw [hj.says] at hs;have hoff:∀ y ∈ z2,0 < y.m.data.length → ∀ z,y.p=some z → z.block≠g:=fun y hy => hj.off y (hs.mem y hy)
    have hdat:∀ y ∈ z2,DatAt w2 y:=fun y hy => (hj.dat y (hs.mem y hy)).kept hs.kept (fun h0 z hz e => hoff y hy h0 z hz e)
    have hI:=hs.row.items hdat;rw [hs.len] at hI;refine ⟨some ⟨g,0,none⟩,d,z2,rfl,hs.says,hI,⟨fun _ z hz => by cases hz;exact hj.new,fun y hy h1 z hz => ?_⟩,hj.bel.trans (hs.kept.below hj.bel.size (fun b hb => by rw [show b=g from hb];exact hj.new)),HD.out.1,HD.out.2⟩
    obtain ⟨i,hi,hiy⟩:=List.mem_iff_getElem.1 (hs.mem y hy);have e1:zs.getD i zeroJ=y:=by rw [getJ_eq hi];exact hiy
    exact hj.own i (by rw [hj.len] at hi;exact hi) (by rw [e1];exact h1) z (by rw [e1];exact hz)
 ·obtain rfl:n=0:=by omega
  have HS:=Lib.hid (stable0_any w1 q d);have hx:xs=[]:=List.eq_nil_of_length_eq_zero HM.out.1;subst hx
  go_wp2_with fail
  refine wp_loop_rounds 1 ?_
  rw [rounds_succ]
  go_wp2_with fail
  refine HS.out.mono ?_
  rintro e w2 ⟨rfl,rfl⟩
  go_wp2
  go_ret
  exact ⟨q,d,[],rfl,rfl,items_nil _ _,⟨fun h => by simp at h,fun y hy => by simp at hy⟩,HB1.out,HD.out.1,HD.out.2⟩
end Go.Proofs.Ytpdpgjilalojjaa.Itm
end
section
namespace Go.Proofs.Ytpdpgjilalojjaa.Itm
open Go.ChangeShapes Go.WideShapes Go.ChangeAt Go.RowKit Base Byt Txt Bk Go.Lib
set_option linter.unusedVariables false
theorem itemC:ItmC where
 base:=itemC4
 sorted:=fun w p n c xs h _ _ hn hR => sortedI_any w p n c xs h hn (fun x hx => (hR x hx).2.2)
end Go.Proofs.Ytpdpgjilalojjaa.Itm
end
section
namespace Go.Proofs.Ytpdpgjilalojjaa.Walk
open Go.ChangeShapes Go.WideShapes Go.ChangeAt Go.RowKit Base Byt Bk Itm Go.Lib
set_option linter.unusedVariables false
theorem recSorts (p:Option Addr) (n c:Nat) (xs:List IP) (w:World) (ma:ItemsAt w p n xs) (lc:n≤c) (cm:c≤maxLen) (by0:c * 48≤140737488351232) (rm:∀ x ∈ xs,WfI x.m∧RoomI x) :
 Calls Try.prog 6 #[.slice p n c] w fun e w' => e=.returned (.bool true)∧Below w.heap.size w w':=recSortsC itemC p n c xs w ma lc cm by0 rm
end Go.Proofs.Ytpdpgjilalojjaa.Walk
end
