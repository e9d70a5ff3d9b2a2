/- Texts of this seat, merged: what the proof reaches. -/
import Derived.Test.YtnpkcneojilmkaaGreatDoorWriteManyX24
import Derived.Test.YtnpkcneojilmkaaGreatDoorWriteManyX28
import Derived.Test.YtnpkcneojilmkaaGreatDoorWriteManyX26
import Derived.Test.YtnpkcneojilmkaaGreatDoorWriteManyX23
import Derived.StillTailTactics
import Derived.Deep.DeepCutAuto
import Derived.Deep.RegionHeldLaw
section
namespace Go.Proofs.YtnpkcneojilmkaaGreatDoor.Wr
open Go.ChangeShapes Go.WideShapes Go.ChangeAt Go.RowKit Base Byt Txt Bk Hp Head Rec Attr Mem Go.Lib
set_option linter.unusedVariables false
set_option maxRecDepth 100000
structure SP (w:World) (M H:Array Value) (rs:RecL) (wx:World):Prop where
 bel:Below w.heap.size w wx
 mem:Blk wx w.heap.size 26 M
 res:Blk wx (w.heap.size+1) 41 (headC zeroH)
 hd:Blk wx (w.heap.size+2) 41 H
 ls:∃ v,Blk wx (w.heap.size+3) 106 #[v]∧wx.ownsRow (w.heap.size+5) 37 2 v rs.length (flatR rs)
 fn:Blk wx (w.heap.size+4) 140 #[.func (.func 85) #[] #[.pointer (some ⟨w.heap.size+3,0,none⟩)]]
section
variable {w wx wy:World} {M H:Array Value} {rs:RecL}
theorem SP.below (h:SP w M H rs wx) (hb:Below wx.heap.size wx wy):SP w M H rs wy where
 bel:=h.bel.trans (hb.mono h.bel.size)
 mem:=h.mem.below hb h.mem.lt
 res:=h.res.below hb h.res.lt
 hd:=h.hd.below hb h.hd.lt
 ls:=by
  obtain ⟨v,h1,h2⟩:=h.ls;exact ⟨v,h1.below hb h1.lt,row_below h2 hb⟩
 fn:=h.fn.below hb h.fn.lt
theorem SP.kept (h:SP w M H rs wx) (hk:Kept noneB wx wy):SP w M H rs wy:=h.below (hk.below (Nat.le_refl _) (fun _ h => h.elim))
theorem SP.set (h:SP w M H rs wx) (i:Nat) (v:Value) (hi:i < H.size):SP w M (H.set i v hi) rs (wx.setCell ⟨w.heap.size+2,i,none⟩ v) where
 bel:=h.bel.setCell (p:=⟨w.heap.size+2,i,none⟩) (by show w.heap.size≤w.heap.size+2;omega) v
 mem:=h.mem.other (by omega) v
 res:=h.res.other (by omega) v
 hd:=h.hd.set i v hi
 ls:=by
  obtain ⟨u,h1,h2⟩:=h.ls;refine ⟨u,h1.other (by omega) v,ownsRow_kept h2 ((Kept.refl (oneB (w.heap.size+2)) wx).setCell (a:=⟨w.heap.size+2,i,none⟩) (.inr rfl) v) (fun k hk e => ?_)⟩
  have:=(h2.lt k hk).1;have:k=w.heap.size+2:=e;omega
 fn:=h.fn.other (by omega) v
theorem SP.grow (h:SP w M H rs wx) {v v':Value} {rs':RecL} {o:Obj} (hl:Blk wx (w.heap.size+3) 106 #[v]) (hr:wx.ownsRow (w.heap.size+5) 37 2 v rs.length (flatR rs))
 (hg:(wx.alloc o).grownBy wy v.ownBlock) (ho:wy.ownsRow (w.heap.size+5) 37 2 v' rs'.length (flatR rs')) :
 (Blk wy (w.heap.size+3) 106 #[v])∧SP w M H rs' (wy.setCell ⟨w.heap.size+3,0,none⟩ v'):=by
 have hK:Kept (fun k => v.ownBlock=some k) wx wy:=((Kept.refl _ wx).alloc o).grown hg (fun k hk => .inr hk)
 have off:∀ k,v.ownBlock=some k → w.heap.size+5≤k:=fun k hk => (hr.lt k hk).1
 have off':∀ k,v'.ownBlock=some k → w.heap.size+5≤k:=fun k hk => (ho.lt k hk).1
 have b3:=hl.keptS hK (fun e => by have:=off _ e;omega)
 refine ⟨b3,?_⟩;exact
 { bel:=(h.bel.trans (hK.below h.bel.size (fun k hk => by have:=off k hk;omega))).setCell (p:=⟨w.heap.size+3,0,none⟩) (by show w.heap.size≤w.heap.size+3;omega) v'
   mem:=(h.mem.keptS hK (fun e => by have:=off _ e;omega)).other (by omega) v'
   res:=(h.res.keptS hK (fun e => by have:=off _ e;omega)).other (by omega) v'
   hd:=(h.hd.keptS hK (fun e => by have:=off _ e;omega)).other (by omega) v'
   ls:=⟨v',b3.set 0 v' (by show 0 < 1;omega),ownsRow_kept ho ((Kept.refl (oneB (w.heap.size+3)) wy).setCell (a:=⟨w.heap.size+3,0,none⟩) (.inr rfl) v') (fun k hk e => by
    have:=off' k hk;have:k=w.heap.size+3:=e
    omega)⟩
   fn:=(h.fn.keptS hK (fun e => by have:=off _ e;omega)).other (by omega) v' }
end
theorem recs_one1 (w:World) (a b:List UInt8):RecsAt (w.alloc (.cells #[.string (str a),.string (str b)] 37)) (some ⟨w.heap.size,0,none⟩) 1 [(a,b)]:=by
 have hb:=Blk.new w 37 #[.string (str a),.string (str b)];refine ⟨rfl,fun _ => ⟨w.heap.size,0,rfl,hb.lt,fun i hi => ?_⟩⟩
 obtain rfl:i=0:=by omega
 exact ⟨hb.cell 0,hb.cell 1⟩
set_option maxHeartbeats 1000000 in
theorem add_any (w wx:World) (M H:Array Value) (rs:RecL) (k v:List UInt8) (h:SP w M H rs wx) (hn:rs.length≤100) :
 Calls Tryz.prog 85 #[.string (str k),.string (str v),.pointer (some ⟨w.heap.size+3,0,none⟩)] wx fun e w' => e=.returned (.tuple #[])∧SP w M H (rs++[(k,v)]) w':=by
 obtain ⟨i0,hi,hz0,hz1,hz2⟩:=info_parts infoRec;obtain ⟨vl,hl,hr⟩:=h.ls;have hr0:=hr;obtain ⟨p,c,rfl,_,_,_⟩:=recs_own hr0;have hr1:=row_below hr ((Below.refl _ wx).alloc (Nat.le_refl _) (.cells #[.string (str k),.string (str v)] 37));have hz:=h.fn.lt;have c0:=hl.cell 0;simp only [List.getElem?_toArray,List.getElem?_cons_zero] at c0;have HI:=Lib.hid hi;have HZ0:=Lib.hid hz0;have HZ1:=Lib.hid hz1;have HZ2:=Lib.hid hz2;have HS:=Lib.hid h;have HL:=Lib.hid hl;have HR:=Lib.hid hr;have HR1:=Lib.hid hr1;obtain ⟨n,hnn⟩:∃ n,rs.length=n:=⟨_,rfl⟩;have HNN:=Lib.hid hnn
 rw [hnn] at hn HL HR HR1 c0;clear hi hz0 hz1 hz2 h hl hr hr1 hr0 hnn
 go_enter Tryz.func85,Tryz.ntmps85
 go_wp2_with (at_builtin;refine append_recs rfl _ _ 106 rfl (w.heap.size+5) 37 i0 (.agg #[.string ⟨#[]⟩,.string ⟨#[]⟩]) Tryz.underlying106 HI.out HZ0.out HZ1.out HZ2.out rfl _ n rs rfl HR1.out (some ⟨wx.heap.size,0,none⟩) 1 1 [(k,v)] rfl (recs_one1 wx k v) (by omega) (by simp;omega) ?_)
 intro v' w' hown hgrow;have hG:=HS.out.grow (rs':=rs++[(k,v)]) (by rw [HNN.out] at *;exact HL.out) (by rw [HNN.out] at *;exact HR.out) hgrow (by rw [List.length_append,HNN.out];exact hown)
 have f0:=hG.1.frozen 0;have g0:=hG.1.cell 0;simp only [List.getElem?_toArray,List.getElem?_cons_zero] at g0;have HG:=Lib.hid hG.2;obtain ⟨p',c',hv',_⟩:=recs_own (rs:=rs++[(k,v)]) (by rw [List.length_append,HNN.out];exact hown)
 obtain ⟨n2,hn2⟩:∃ n2,n2=(rs++[(k,v)]).length:=⟨_,rfl⟩;rw [← hn2] at hv';subst hv';clear hG hown hgrow hn2
 go_wp2
 go_end0
 exact ⟨rfl,HG.out⟩
def AddPost (w:World) (M H H':Array Value) (rs rs':RecL) (e:Ending) (w':World):Prop:=e=.returned (.tuple #[])∧SP w M H' rs' w'
set_option maxHeartbeats 2000000 in
theorem addText_any (w wx:World) (M H H':Array Value) (rs rs':RecL) (i:Nat) (key t:List UInt8) (fits c:Bool) (h:SP w M H rs wx) (hi:i < H.size) (hH:H[i]? = some (.string (str t)))
 (hc:(!fits || !fitsD t)=c) (hH':(if c=true then H.setIfInBounds i (.string (str longN)) else H)=H') (hrs:(if c=true then rs++[(key,t)] else rs)=rs') (ht:t.length≤100000) (hn:rs.length≤100) :
 Calls Tryz.prog 86 #[.string (str key),.pointer (some ⟨w.heap.size+2,i,none⟩),.bool fits,.pointer (some ⟨w.heap.size+4,0,none⟩)] wx (AddPost w M H H' rs rs'):=by
 have hC:=h.hd.cell i;rw [hH] at hC;have HS:=Lib.hid h;have HC:=Lib.hid hc;have HH:=Lib.hid hH;have HH':=Lib.hid hH';have HRS:=Lib.hid hrs;have HI:=Lib.hid hi;clear h hc hH hH' hrs hi
 go_enter Tryz.func86,Tryz.ntmps86
 go_upto_region 0 with fail
 go_cut [15] (fun s wy => s=.bool c∧SP w M H rs wy)
 case first =>
  cases fits with
  | false =>
    go_wp2
    go_meet
    exact ⟨by rw [← HC.out];rfl,HS.out⟩
  | true =>
    have hP:=plain_any (str t) wx (by rw [str_size];omega)
    rw [str_data] at hP;have HP:=Lib.hid hP;clear hP
    go_wp2_with fail
    refine HP.out.mono ?_
    rintro e w1 ⟨rfl,hb⟩;have H1:=Lib.hid (HS.out.below hb);clear hb
    go_wp2
    go_meet
    exact ⟨by rw [← HC.out];rfl,H1.out⟩
 case rest =>
  obtain ⟨rfl,hs⟩:=hcut;have HS1:=Lib.hid hs;clear hs hC
  cases c with
  | false =>
    go_wp2
    go_end0
    refine ⟨rfl,?_⟩;rw [← HH'.out,← HRS.out,if_neg (by simp),if_neg (by simp)]
    exact HS1.out
  | true =>
    have hC:=HS1.out.hd.cell i;rw [HH.out] at hC;have hF:=HS1.out.fn.cell 0;simp only [List.getElem?_toArray,List.getElem?_cons_zero] at hF
    go_upto_region 1 with fail
    go_still_tail 5,(by kernel_rfl)
    go_wp2_with fail
    refine (add_any w _ M H rs key t (HS1.out.kept ((Kept.refl noneB wc).drew)) hn).mono ?_
    rintro e w2 ⟨rfl,h2⟩;have H2:=Lib.hid h2;have f2:=h2.hd.frozen i;have c2:=h2.hd.cell i;rw [HH.out] at c2;clear h2
    go_wp2
    go_end0
    refine ⟨rfl,?_⟩;rw [← HH'.out,← HRS.out,if_pos trivial,if_pos trivial,Array.setIfInBounds,dif_pos HI.out];exact H2.out.set i _ HI.out
set_option maxHeartbeats 2000000 in
theorem addNumber_any (w wx:World) (M H H':Array Value) (rs rs':RecL) (i:Nat) (key:List UInt8) (n most:Nat) (h:SP w M H rs wx) (hi:i < H.size) (hH:H[i]? = some (.int .i64 (n:Int)))
 (hH':(if most < n then H.setIfInBounds i (.int .i64 0) else H)=H') (hrs:(if most < n then rs++[(key,decL n)] else rs)=rs') (ht:n≤9223372036854775807) (hn:rs.length≤100) (hN:Need wx) :
 Calls Tryz.prog 88 #[.string (str key),.pointer (some ⟨w.heap.size+2,i,none⟩),.int .i64 (most:Int),.pointer (some ⟨w.heap.size+4,0,none⟩)] wx (AddPost w M H H' rs rs'):=by
 have hC:=h.hd.cell i;rw [hH] at hC;have hF:=h.fn.cell 0;simp only [List.getElem?_toArray,List.getElem?_cons_zero] at hF;have HS:=Lib.hid h;have HH:=Lib.hid hH;have HH':=Lib.hid hH';have HRS:=Lib.hid hrs;have HI:=Lib.hid hi;have HN:=Lib.hid hN;clear h hH hH' hrs hi hN
 by_cases hx:most < n
 ·have hxi:(most:Int) < (n:Int):=by omega
  rw [if_pos hx] at HH' HRS
  go_enter Tryz.func88,Tryz.ntmps88
  go_upto_region 1 with fail
  go_region_held_law (fun w' => w'.cell? ⟨w.heap.size+4,0,none⟩=some (.func (.func 85) #[] #[.pointer (some ⟨w.heap.size+3,0,none⟩)])∧w'.cell? ⟨w.heap.size+2,i,none⟩=some (.int .i64 (n:Int))) (first | exact ⟨hF,hC⟩ | exact hS3 | exact hS2)
   (first
    | (go_at_call 89;refine (itoa_any n _ ht (HN.out.below (((Kept.refl noneB wx).drew).below (Nat.le_refl _) (fun _ h => h.elim)))).mono ?_;rintro e w2 ⟨rfl,hb2⟩;have H2:=Lib.hid ((HS.out.kept ((Kept.refl noneB wx).drew)).below hb2);(have hS2:=And.intro (H2.out.fn.cell 0) (H2.out.hd.cell i));rw [HH.out] at hS2;simp only [List.getElem?_toArray,List.getElem?_cons_zero] at hS2;clear hb2)
    | (go_at_call 85;refine (add_any w _ M H rs key (decL n) H2.out hn).mono ?_;rintro e w3 ⟨rfl,h3⟩;have H3:=Lib.hid h3;(have hS3:=And.intro (H3.out.fn.cell 0) (H3.out.hd.cell i));rw [HH.out] at hS3;simp only [List.getElem?_toArray,List.getElem?_cons_zero] at hS3;clear h3))
  all_goals
   obtain ⟨_,c3⟩:=hS3;have f3:=H3.out.hd.frozen i
   go_wp2
   go_end0
   refine ⟨rfl,?_⟩;rw [← HH'.out,← HRS.out,Array.setIfInBounds,dif_pos HI.out];exact H3.out.set i _ HI.out
 ·have hxi:¬ (most:Int) < (n:Int):=by omega
  rw [if_neg hx] at HH' HRS
  go_enter Tryz.func88,Tryz.ntmps88
  go_wp2
  go_end0
  exact ⟨rfl,by rw [← HH'.out,← HRS.out];exact HS.out⟩
end Go.Proofs.YtnpkcneojilmkaaGreatDoor.Wr
end
