/- Texts of this seat, merged: what the proof reaches. -/
import Derived.RangeFuncNested
import Derived.RangeFuncBound
import Derived.RangeFuncCalls
import Derived.RangeFuncLeaves
import Derived.Shelf.Abstract
import Derived.Shelf.RegionOpen
import Derived.WalkKit
import Derived.OwnWalkIn
import Derived.TacticsInMore
import Derived.LoopNIn
import Derived.LoopIn
import Derived.Test.YtnpkcneojilmkaaGreatDoorWriteManyX31
import Derived.Test.YtnpkcneojilmkaaGreatDoorWriteManyX11
import Derived.Test.YtnpkcneojilmkaaGreatDoorWriteManyX28
import Derived.Test.YtnpkcneojilmkaaGreatDoorWriteManyX24
import Derived.Laws.ResultCell
import Derived.Deep.DeepCutAuto
import Derived.Test.YtnpkcneojilmkaaGreatDoorWriteManyX22
import Derived.Test.YtnpkcneojilmkaaGreatDoorWriteManyX13
import Derived.Test.YtnpkcneojilmkaaGreatDoorWriteManyX26
import Derived.Test.YtnpkcneojilmkaaGreatDoorWriteManyX14
import Derived.Test.YtnpkcneojilmkaaGreatDoorWriteManyX27
import Derived.Lib.SlBytesConst
import Derived.Test.YtnpkcneojilmkaaGreatDoorWriteManyX23
import Derived.StillTailTactics
import Derived.WalkSpells
import Derived.Test.YtnpkcneojilmkaaGreatDoorWriteManyX17
section
namespace Go.Proofs.YtnpkcneojilmkaaGreatDoor.Path
open Go.ChangeShapes Go.WideShapes Go.ChangeAt Go.RowKit Go.Shelf Base Byt Txt Go.Lib Num
set_option linter.unusedVariables false
set_option maxRecDepth 100000
attribute [local go_sem] Oper.semAt_some
theorem abides_drewN {β:Type} {B:Nat} {J:β → World → Prop} (h:AbidesFrom B J) {s:β} {w:World} (hs:J s w) (n:Nat):J s (w.drewN n):=
 match n with
 | 0 => hs
 | n+1 => h s (w.drewN n) _ none (abides_drewN h hs n) ⟨rfl,rfl,rfl,Nat.le_refl _,fun _ _ _ => rfl⟩ (fun r e => by cases e)
def leftL (m:Bool) (l:List UInt8):List (List UInt8):=if m then partsL l else []
theorem left_cut (l:List UInt8):leftL true l=(cutL l).1 :: leftL (cutL l).2.2 (cutL l).2.1:=by
 unfold leftL cutL;rw [if_pos rfl];obtain ⟨h1,h2⟩:=parts_cut l
 by_cases h:0≤Lib.indexByte l 47
 ·rw [if_pos h,h1 h]
  simp
 ·rw [if_neg h,h2 h]
  simp
theorem cut_less (l:List UInt8):(cutL l).2.1.length+(if (cutL l).2.2 then 1 else 0) < l.length+1:=by
 unfold cutL
 by_cases h:0≤Lib.indexByte l 47
 ·rw [if_pos h]
  obtain ⟨k,hk⟩:∃ k:Nat,Lib.indexByte l 47=k:=⟨(Lib.indexByte l 47).toNat,by omega⟩
  have hlt:=(List.getElem?_eq_some_iff.1 (Lib.indexByte_some hk).1).1;simp only [List.length_drop,hk,Int.toNat_natCast,if_true];omega
 ·rw [if_neg h]
  simp
def leftN (r m:Value):Nat:=(match r with | .string s => s.size | _ => 0)+(match m with | .bool true => 1 | _ => 0)
abbrev Part:={ x:List UInt8 // x.length≤1000000000000 }
theorem parts_len (l:List UInt8):∀ p ∈ partsL l,p.length≤l.length:=by
 induction l with
 | nil => simp [partsL]
 | cons b l ih =>
   unfold partsL
   by_cases hb:b=47
   ·rw [if_pos hb]
    intro p hp;rcases List.mem_cons.1 hp with rfl | hp
    ·simp
    ·have:=ih p hp;rw [List.length_cons];omega
   ·rw [if_neg hb]
    cases hq:partsL l with
    | nil => exact absurd hq (parts_ne l)
    | cons q qs =>
      rw [hq] at ih;intro p hp;rcases List.mem_cons.1 hp with rfl | hp
      ·have:=ih q (by simp)
       simp only [List.headD_cons,List.length_cons];omega
      ·have:=ih p (List.mem_cons_of_mem _ hp);rw [List.length_cons];omega
theorem some_parts (s:List UInt8) (hm:s.length≤1000000000000):∃ ps:List Part,ps.map (·.1)=partsL s:=by
 refine ⟨(partsL s).attachWith _ (fun p hp => Nat.le_trans (parts_len s p hp) hm),?_⟩
 simp
set_option maxHeartbeats 1000000 in
theorem seq_in (F:Fence) (n:Nat) (hF:F=Fence.wide) (hn:1≤n) (l Bn:Nat) (s:List UInt8) (hm:s.length≤1000000000000) (ps:List Part) (hps:ps.map (·.1)=partsL s) (J Jx:List Part → World → Prop) (B:Nat) (hJ:AbidesFrom B J)
 (hY:∀ pre x W,J pre W → pre.length < ps.length → YieldAt F (n - 1) Tryz.prog l #[.string (str x.1)] W fun e W' =>
  (e=.returned (.bool true)∧J (pre++[x]) W'∧True) ∨ (e=.returned (.bool false)∧Jx (pre++[x]) W'))
 (W:World) (hBn:W.cell? ⟨Bn,0,none⟩=some (.string (str s))) (h0:J [] W) :
 CallsIn F n Tryz.prog 126 #[.func (.yield l) #[] #[],.pointer (some ⟨Bn,0,none⟩)] W fun e W' => (∃ v,e=.returned v) ∧
  ((∃ ys,ys=ps∧J ys W') ∨ (∃ pre,pre <+: ps∧Jx pre W')):=by
 subst hF;refine callsIn_of_wp Tryz.func126 rfl trivial ?_ rfl;simp only [Tryz.ntmps126,List.size_toArray,List.length_cons,List.length_nil,Nat.reduceAdd,Nat.reduceSub,Array.replicate_succ,Array.replicate_zero,List.push_toArray,List.append_toArray,List.nil_append,List.cons_append]
 gi_wp2
 gi_loopw [3,4] (fun r m wr => ∃ (pre tl:List Part) (rest:List UInt8) (b:Bool),r=.string (str rest)∧m=.bool b∧Hid (ps=pre++tl∧tl.map (·.1)=leftL b rest)∧rest.length≤1000000000000∧J pre wr)
  (fun r m wr => leftN r m)
 case atStart => exact ⟨[],ps,s,true,rfl,rfl,⟨rfl,hps⟩,hm,h0⟩
 case round =>
  obtain ⟨pre,tl,rest,b,rfl,rfl,hx,hr,hJs⟩:=hrel
  cases b with
  | false =>
    gi_wp2
    go_end0
    exact ⟨⟨_,rfl⟩,.inl ⟨pre,by obtain ⟨h1,h2⟩:=hx.out;obtain rfl:tl=[]:=List.map_eq_nil_iff.1 h2;simp [h1],hJs⟩⟩
  | true =>
    obtain ⟨hx1,hx2⟩:=hx.out;rw [left_cut] at hx2
    obtain ⟨x,tl',htl⟩:∃ x tl',tl=x :: tl':=by
     cases tl with
     | nil => simp at hx2
     | cons x tl' => exact ⟨x,tl',rfl⟩
    rw [htl,List.map_cons,List.cons.injEq] at hx2;have hc:=cutSlash_any rest wr hr;have hl:=cut_less rest;have hsz:(str rest).size=rest.length:=str_size rest;obtain ⟨p,hp⟩:∃ p:List UInt8,p=x.1:=⟨_,rfl⟩;obtain ⟨q,hq⟩:∃ q,q=(cutL rest).2.1:=⟨_,rfl⟩;obtain ⟨b,hb⟩:∃ b,b=(cutL rest).2.2:=⟨_,rfl⟩;rw [← hx2.1,← hp,← hq,← hb] at hc;rw [← hq,← hb] at hx2;rw [htl] at hx1;rw [← hq,← hb] at hl;have HX:=Lib.hid (And.intro hx1 hx2.2);have HL:=Lib.hid hl;have HS:=Lib.hid hsz
    have hgo0:∀ k,YieldAt Fence.wide (n - 1) Tryz.prog l #[.string (str x.1)] (wr.drewN k) fun e W' =>
     (e=.returned (.bool true)∧J (pre++[x]) W'∧True) ∨ (e=.returned (.bool false)∧Jx (pre++[x]) W'):=
     fun k => hY pre x _ (abides_drewN hJ hJs k) (by rw [hx1];simp)
    rw [← hp] at hgo0;clear hp hq hb hx1 hx2 hl hsz hx htl hY
    gi_wp2_with (refine ⟨trivial,?_⟩;gi_at_call 108;refine (callsIn_wide.2 hc).mono ?_;rintro e w' ⟨rfl,k,rfl⟩;obtain ⟨fn,tmps,assign,body,hy,hR⟩:=hgo0 k)
    refine hR.mono ?_
    rintro e W3 (⟨rfl,hJ3,-⟩ | ⟨rfl,hJx3⟩)
    ·gi_wp2
     go_roundw
     case rel => exact ⟨pre++[x],tl',q,b,rfl,rfl,⟨by rw [HX.out.1];simp,HX.out.2⟩,by have:=HL.out;omega,hJ3⟩
     case measure =>
      have h1:=HL.out;have h2:=HS.out;have h3:(str q).size=q.length:=str_size q
      cases b<;>simp [leftN,h2,h3] at h1 ⊢<;>omega
    ·gi_wp2
     refine bodyPost_ret (results_none rfl _ _ _) rfl ?_
     exact ⟨⟨_,rfl⟩,.inr ⟨pre++[x],by rw [HX.out.1];exact ⟨tl',by simp⟩,hJx3⟩⟩
theorem seq_stops (n:Nat) (hn:1≤n) (Bn:Nat) (s:List UInt8) (hm:s.length≤1000000000000) (ps:List Part) (hps:ps.map (·.1)=partsL s) (w:World) (hBn:Bn < w.heap.size) (hc:w.cell? ⟨Bn,0,none⟩=some (.string (str s))) :
 SeqStopsK Fence.wide n Tryz.prog 126 #[.pointer (some ⟨Bn,0,none⟩)] (fun x:Part => #[Value.string (str x.1)]) (fun _ _ => True) (fun ys => ys=ps) (fun pre => pre <+: ps) ps.length w:=fun l J Jx W hW hJ _ hY h0 =>
 seq_in Fence.wide n rfl hn l Bn s hm ps hps J Jx _ hJ hY W ((hW.cell (p:=⟨Bn,0,none⟩) hBn).trans hc) h0
theorem parts_any (s:List UInt8) (w:World) :
 Calls Tryz.prog 96 #[.string (str s)] w fun e w' => e=.returned (.func (.func 126) #[] #[.pointer (some ⟨w.heap.size,0,none⟩)])∧w'=w.alloc (.cells #[.string (str s)] 9):=by
 go_enter Tryz.func96,Tryz.ntmps96
 go_wp2
 go_ret
 exact ⟨rfl,rfl⟩
end Go.Proofs.YtnpkcneojilmkaaGreatDoor.Path
end
section
namespace Go.Proofs.YtnpkcneojilmkaaGreatDoor.Path
open Go.ChangeShapes Go.WideShapes Go.ChangeAt Go.RowKit Go.Shelf Base Byt Txt Go.Lib Num
set_option linter.unusedVariables false
set_option maxRecDepth 100000
attribute [local go_sem] Oper.semAt_some
theorem goP_app (a b:List (List UInt8)):∀ c,goP c (a++b)=(goP c a).bind fun d => goP d b:=by
 induction a with
 | nil => intro c;rfl
 | cons p a ih =>
   intro c;rw [List.cons_append,goP,goP]
   split
   ·rfl
   ·exact ih _
theorem goP_snoc (pre:List (List UInt8)) (p c d:List UInt8) (h:goP c pre=some d):goP c (pre++[p])=if p=[46,46] ∨ 200 < (joinP d p).length then none else some (joinP d p):=by
 rw [goP_app,h,Option.bind_some];unfold goP
 split<;>rfl
theorem goP_le (ps:List (List UInt8)):∀ c d,c.length≤200 → goP c ps=some d → d.length≤200:=by
 induction ps with
 | nil => intro c d hc h;cases h;exact hc
 | cons p ps ih =>
   intro c d hc h;unfold goP at h
   split at h
   ·cases h
   ·next hn => exact ih _ _ (by rcases Nat.lt_or_ge 200 (joinP c p).length with h' | h';exact absurd (.inr h') hn;exact h') h
theorem goP_none (a b:List (List UInt8)) (h:goP [] a=none):goP [] (a++b)=none:=by rw [goP_app,h];rfl
theorem head_slash_iff (l:List UInt8):Lib.hasPrefix l [47]=decide (l.head? = some 47):=by
 cases l with
 | nil => simp [Lib.hasPrefix]
 | cons b t =>
   by_cases h:b=47
   ·subst h;simp [Lib.hasPrefix]
   ·have h':¬ (47:UInt8)=b:=fun e => h e.symm
    simp [Lib.hasPrefix,List.isPrefixOf,h,h']
def Cell (W:World) (b:Nat) (v:Value):Prop:=W.cell? ⟨b,0,none⟩=some v∧W.frozen? ⟨b,0,none⟩=false
theorem Cell.kept {W W':World} {b:Nat} {v:Value} (h:Cell W b v) {row:Option Nat} (hg:W.grownBy W' row) (hr:∀ r,row=some r → ∃ o:Obj,W.heap[r]? = some o∧o.isCells=false):Cell W' b v:=
 ⟨cell_kept h.1 hg hr,(frozen_kept h.1 hg hr).trans h.2⟩
theorem Cell.below {W W':World} {b n:Nat} {v:Value} (h:Cell W b v) (hb:Below n W W') (hn:b < n):Cell W' b v:=
 ⟨(hb.cell (p:=⟨b,0,none⟩) hn).trans h.1,(hb.frozen (p:=⟨b,0,none⟩) hn).trans h.2⟩
theorem Cell.new (W:World) (v:Value) (t:TypeId):Cell (W.alloc (.cells #[v] t)) W.heap.size v:=by
 have h:=World.alloc_heap_new W (.cells #[v] t);unfold Cell World.cell? World.frozen?;rw [h];exact ⟨rfl,rfl⟩
theorem Cell.alloc {W:World} {b:Nat} {v:Value} (h:Cell W b v) (o:Obj):Cell (W.alloc o) b v:=h.kept (World.grownBy_alloc W o none) (fun r e => by cases e)
theorem Cell.set {W:World} {b:Nat} {v:Value} (h:Cell W b v) (u:Value):Cell (W.setCell ⟨b,0,none⟩ u) b u:=
 ⟨World.cell?_setCell_same' _ _ _ (by rw [h.1];rfl),by rw [World.frozen?_setCell];exact h.2⟩
theorem Cell.other {W:World} {b b':Nat} {v:Value} (h:Cell W b v) (u:Value) (hne:b'≠b):Cell (W.setCell ⟨b',0,none⟩ u) b v:=
 ⟨(World.cell?_setCell_other _ _ _ _ (fun e => hne (congrArg Addr.block e))).trans h.1,by rw [World.frozen?_setCell];exact h.2⟩
def restD (P:Int) (l:List UInt8):List UInt8 × Int:=
 if l.head? = some 47 then ([],P) else match goP [] (partsL l) with | none => ([],P) | some a => if a=[] then ([],P) else (a,0)
theorem clean_rest (T P:Int) (l:List UInt8):cleanD T P l=if textD l=false then ([],T) else restD P l:=clean_goP T P l
theorem ret_cells (W:World) (tm:Array Value) (b0 b1:Nat) (s:ByteArray) (e:Int) (h0:tm[2]? = some (.pointer (some ⟨b0,0,none⟩))) (h1:tm[3]? = some (.pointer (some ⟨b1,0,none⟩)))
 (c0:Cell W b0 (.string s)) (c1:Cell W b1 (.int .i64 e)):(results Tryz.f64 tm).run Tryz.prog W=.ok (.tuple #[.string s,.int .i64 e]) W:=by
 obtain ⟨c00,c01⟩:=c0;obtain ⟨c10,c11⟩:=c1;simp [results,Tryz.f64,go_sem,h0,h1,c00,c10]
set_option maxHeartbeats 2000000 in
theorem clean_any (l:List UInt8) (w:World) (hm:l.length≤1000000000000) (hT:Tabs w) :
 Calls Tryz.prog 64 #[.string (str l)] w fun e w' => e=.returned (.tuple #[.string (str (cleanD 9 6 l).1),.int .i64 (cleanD 9 6 l).2])∧Below w.heap.size w w':=by
 have hR:=fun w hT => right_any l w hm hT
 have hP:=fun w => Any.strings_HasPrefix Tryz.laysPrefix (str l) ⟨#[47]⟩ w
 rw [clean_rest];simp only [str_data,head_slash_iff] at hP;refine (callsIn_wide (n:=3)).1 ?_
 refine callsIn_of_wp_marks Tryz.func64 rfl trivial ?_ rfl;simp only [Tryz.ntmps64,List.size_toArray,List.length_cons,List.length_nil,Nat.reduceAdd,Nat.reduceSub,Array.replicate_succ,Array.replicate_zero,List.push_toArray,List.append_toArray,List.nil_append,List.cons_append];have hB0:Below w.heap.size w ((w.alloc (.cells #[.string ⟨#[]⟩] 9)).alloc (.cells #[.int .i64 0] 27)):=((Below.refl _ _).alloc (Nat.le_refl _) _).alloc (by simp) _
 have hT0:=hT.below hB0;have c0:Cell ((w.alloc (.cells #[.string ⟨#[]⟩] 9)).alloc (.cells #[.int .i64 0] 27)) w.heap.size (.string ⟨#[]⟩):=(Cell.new w _ _).alloc _
 have c1:Cell ((w.alloc (.cells #[.string ⟨#[]⟩] 9)).alloc (.cells #[.int .i64 0] 27)) (w.heap.size+1) (.int .i64 0):=by
  have:=Cell.new (w.alloc (.cells #[.string ⟨#[]⟩] 9)) (.int .i64 0) 27
  rwa [World.size_alloc] at this
 have HC:=Lib.hid (And.intro c0 c1);have HB:=Lib.hid hB0;clear c0 c1 hB0 hT
 cases ht:textD l with
 | false =>
   rw [if_pos rfl];have hR':=hR _ hT0;rw [ht] at hR'
   gi_wp2_with fail
   refine ⟨trivial,(callsIn_wide.2 hR').mono ?_⟩;rintro e w1 ⟨rfl,hb⟩;simp only [World.size_alloc] at hb;obtain ⟨d00,d01⟩:=HC.out.1.below hb (by omega)
   obtain ⟨d10,d11⟩:=HC.out.2.below hb (by omega)
   have HB1:=Lib.hid (HB.out.trans (hb.mono (by omega)))
   clear hb hR' hT0 hR hP
   gi_wp2_with fail
   refine ⟨_,ret_cells _ _ w.heap.size (w.heap.size+1) ⟨#[]⟩ 9 rfl rfl (((show Cell w1 w.heap.size _ from ⟨d00,d01⟩).set _).other _ (by omega)) (((show Cell w1 (w.heap.size+1) _ from ⟨d10,d11⟩).other _ (by omega)).set _),rfl,?_⟩
   exact (HB1.out.setCell (p:=⟨w.heap.size,0,none⟩) (Nat.le_refl _) _).setCell (p:=⟨w.heap.size+1,0,none⟩) (by simp) _
 | true =>
   rw [if_neg (by simp)]
   have hR':=hR _ hT0;rw [ht] at hR';obtain ⟨G,hG⟩:∃ G,restD 6 l=G:=⟨_,rfl⟩;rw [hG];unfold restD at hG;have HG:=Lib.hid hG;clear hG
   gi_wp2_with fail
   refine ⟨trivial,(callsIn_wide.2 hR').mono ?_⟩;rintro e w1 ⟨rfl,hb⟩;simp only [World.size_alloc] at hb;have d0:=HC.out.1.below hb (by omega)
   have d1:=HC.out.2.below hb (by omega)
   have HS1:Hid (w.heap.size+2≤w1.heap.size):=Lib.hid (by have:=hb.size;rw [World.size_alloc,World.size_alloc] at this;omega)
   have HB1:=Lib.hid (HB.out.trans (hb.mono (by omega)))
   clear hb hR' hT0 hR;have hP':=hP w1;clear hP
   by_cases h0:l.head? = some 47
   ·obtain rfl:([],6)=G:=by rw [← HG.out,if_pos h0]
    rw [decide_eq_true h0] at hP';clear h0;obtain ⟨d00,d01⟩:=d0;obtain ⟨d10,d11⟩:=d1
    gi_wp2_with fail
    refine ⟨trivial,(callsIn_wide.2 hP').mono ?_⟩;rintro e w' ⟨rfl,rfl⟩
    gi_wp2_with fail
    refine ⟨_,ret_cells _ _ w.heap.size (w.heap.size+1) ⟨#[]⟩ 6 rfl rfl (((show Cell w' w.heap.size _ from ⟨d00,d01⟩).set _).other _ (by omega)) (((show Cell w' (w.heap.size+1) _ from ⟨d10,d11⟩).other _ (by omega)).set _),rfl,?_⟩
    exact (HB1.out.setCell (p:=⟨w.heap.size,0,none⟩) (Nat.le_refl _) _).setCell (p:=⟨w.heap.size+1,0,none⟩) (by simp) _
   ·have hG:=HG.out
    rw [if_neg h0] at hG;rw [decide_eq_false h0] at hP';have HG2:=Lib.hid hG;clear h0 HG hG;have HD:=Lib.hid (And.intro d0 d1);clear d0 d1
    gi_wp2_with fail
    refine ⟨trivial,(callsIn_wide.2 hP').mono ?_⟩;rintro e w' ⟨rfl,rfl⟩
    gi_wp2_with fail
    have HB2:Hid (Below w.heap.size w ((w'.alloc (.cells #[.string ⟨#[]⟩] 9)).alloc (.cells #[.string (str l)] 9))):=
     Lib.hid ((HB1.out.alloc (by have:=HS1.out;omega) _).alloc (by have:=HS1.out;rw [World.size_alloc];omega) _)
    have HX:=Lib.hid (((Cell.new w' (.string ⟨#[]⟩) 9)).alloc (.cells #[.string (str l)] 9));have HY:=Lib.hid (And.intro ((HD.out.1.alloc (.cells #[.string ⟨#[]⟩] 9)).alloc (.cells #[.string (str l)] 9)) ((HD.out.2.alloc (.cells #[.string ⟨#[]⟩] 9)).alloc (.cells #[.string (str l)] 9)));have HZ:=Lib.hid (Cell.new (w'.alloc (.cells #[.string ⟨#[]⟩] 9)) (.string (str l)) 9);clear HB1 HD HC;obtain ⟨ps,hps⟩:=some_parts l hm;refine ⟨trivial,(callsIn_wide.2 (parts_any l _)).mono ?_⟩;rintro e w2 ⟨rfl,rfl⟩
    gi_wp2_with fail
    obtain ⟨n1,hn1⟩:∃ n1,w'.heap.size=n1:=⟨_,rfl⟩;obtain ⟨W0,hW0⟩:∃ W0,(w'.alloc (.cells #[.string ⟨#[]⟩] 9)).alloc (.cells #[.string (str l)] 9)=W0:=⟨_,rfl⟩;have HN:Hid (W0.heap.size=n1+2∧w.heap.size+2≤n1):=Lib.hid (by rw [← hW0,World.size_alloc,World.size_alloc];exact ⟨by omega,by have:=HS1.out;omega⟩)
    rw [hW0] at HB2 HX HY HZ ⊢;rw [World.size_alloc] at HZ;rw [hn1] at HX HZ ⊢;clear hW0 HS1 hn1 HB
    refine wpIn_rangeFunc_ownF rfl (by omega) (gf:=126) (lb:=#[.pointer (some ⟨n1+1,0,none⟩)]) rfl trivial (enters_of Tryz.func126 (by kernel_rfl) rfl)
     (seq_stops _ (by omega) (n1+1) l hm ps hps W0 (by rw [HN.out.1];omega) HZ.out.1) (fun _ _ => trivial) (fun _ _ _ _ _ _ _ _ => trivial) (Below.refl _ _) (fun _ => rfl)
     (fun pre W => (∃ c,goP [] (pre.map (·.1))=some c∧Cell W n1 (.string (str c))∧Cell W w.heap.size (.string ⟨#[]⟩)∧Cell W (w.heap.size+1) (.int .i64 0))∧Below w.heap.size w W)
     (fun c pre W => (c=.ret∧goP [] (pre.map (·.1))=none∧Cell W w.heap.size (.string ⟨#[]⟩)∧Cell W (w.heap.size+1) (.int .i64 6))∧Below w.heap.size w W)
     (OwnFrom.and (Own.from (fun s A B row hs hg hr => by obtain ⟨c,h1,h2,h3,h4⟩:=hs;exact ⟨c,h1,h2.kept hg hr,h3.kept hg hr,h4.kept hg hr⟩) _) (ownFrom_below (Nat.le_refl _) (by rw [HN.out.1];have:=HN.out.2;omega)))
     (fun c => OwnFrom.and (Own.from (fun s A B row hs hg hr => ⟨hs.1,hs.2.1,hs.2.2.1.kept hg hr,hs.2.2.2.kept hg hr⟩) _) (ownFrom_below (Nat.le_refl _) (by rw [HN.out.1];have:=HN.out.2;omega)))
     ⟨⟨[],rfl,HX.out,HY.out.1,HY.out.2⟩,HB2.out⟩
     (fun x => { tmps:=#[.string (str l),undef,.pointer (some ⟨w.heap.size,0,none⟩),.pointer (some ⟨w.heap.size+1,0,none⟩),.pointer (some ⟨n1,0,none⟩),.string (str x.1),.string (str l),.bool true,.bool false,.string (str l),.bool false,.string (str l),.func (.func 126) #[] #[.pointer (some ⟨n1+1,0,none⟩)],.string (str x.1),undef,undef,undef,undef,undef,undef,undef,undef,undef,undef,undef,undef,undef],defers:=[] }) ?assign ?body ?done ?stop
    case assign =>
     intro l x W K hK
     gi_wp2
     exact hK
    case body =>
     rintro l' pre x W ⟨⟨c,hg,c0,c1,c2⟩,hB⟩ _;have hc:=goP_le _ _ _ (by simp) hg
     have hj:=join_any c x.1 W (by have:=x.2;omega)
     have hs:=goP_snoc _ x.1 _ _ hg;obtain ⟨d,hd⟩:∃ d,joinP c x.1=d:=⟨_,rfl⟩;rw [hd] at hj hs;have e0:=(c0.set (.string (str d)));have e1:=(c1.other (.string (str d)) (show n1≠_ by have:=HN.out.2;omega))
     have e2:=(c2.other (.string (str d)) (show n1≠_ by have:=HN.out.2;omega))
     have hB1:=hB.setCell (p:=⟨n1,0,none⟩) (show w.heap.size≤n1 by have:=HN.out.2;omega) (.string (str d))
     have HE:=Lib.hid (And.intro e1 (And.intro e2 hB1));have hsz:((str d).size:Int)=d.length:=by rw [str_size]
     obtain ⟨f0,f1⟩:=c0;have HP:=Lib.hid hd
     by_cases hx:x.1=[46,46]
     ·have b1:((str x.1).toList == [46,46])=true:=by rw [str_is];simpa using hx
      rw [if_pos (.inl hx)] at hs;have hs':goP [] ((pre++[x]).map (·.1))=none:=by rw [List.map_append];exact hs
      have HS':=Lib.hid hs';clear hs hs' hx hd hg hc e1 e2 c1 c2 hB hB1 hsz
      gi_wp2_with fail
      refine ⟨trivial,(CallsIn.inRound l' (callsIn_wide.2 hj)).mono ?_⟩;rintro e w3 ⟨rfl,rfl⟩;obtain ⟨e00,e01⟩:=e0;obtain ⟨g00,g01⟩:=HE.out.1;obtain ⟨g10,g11⟩:=HE.out.2.1
      gi_wp2
      exact ⟨((KeepsOthers.setCell _ _ _).trans (KeepsOthers.setCell _ _ _)).trans (KeepsOthers.setCell _ _ _),⟨rfl,HS'.out,(HE.out.1.set _).other _ (by omega),(HE.out.2.1.other _ (by omega)).set _⟩,(HE.out.2.2.setCell (p:=⟨w.heap.size,0,none⟩) (Nat.le_refl _) _).setCell (p:=⟨w.heap.size+1,0,none⟩) (by simp) _⟩
     ·have b1:((str x.1).toList == [46,46])=false:=by rw [str_is];simpa using hx
      obtain ⟨n,hn⟩:∃ n,(str d).size=n:=⟨_,rfl⟩
      by_cases h2:200 < d.length
      ·have b2:(200:Int) < (n:Int):=by omega
       rw [if_pos (.inr h2)] at hs;have hs':goP [] ((pre++[x]).map (·.1))=none:=by rw [List.map_append];exact hs
       have HS':=Lib.hid hs';clear hs hs' hx hd hg hc e1 e2 c1 c2 hB hB1 hsz h2
       gi_wp2_with fail
       refine ⟨trivial,(CallsIn.inRound l' (callsIn_wide.2 hj)).mono ?_⟩;rintro e w3 ⟨rfl,rfl⟩;obtain ⟨e00,e01⟩:=e0;obtain ⟨g00,g01⟩:=HE.out.1;obtain ⟨g10,g11⟩:=HE.out.2.1
       gi_wp2
       exact ⟨((KeepsOthers.setCell _ _ _).trans (KeepsOthers.setCell _ _ _)).trans (KeepsOthers.setCell _ _ _),⟨rfl,HS'.out,(HE.out.1.set _).other _ (by omega),(HE.out.2.1.other _ (by omega)).set _⟩,(HE.out.2.2.setCell (p:=⟨w.heap.size,0,none⟩) (Nat.le_refl _) _).setCell (p:=⟨w.heap.size+1,0,none⟩) (by simp) _⟩
      ·have b2:¬ (200:Int) < (n:Int):=by omega
       rw [if_neg (fun h => h.elim hx h2)] at hs
       have hs':goP [] ((pre++[x]).map (·.1))=some d:=by rw [List.map_append];exact hs
       have HS':=Lib.hid hs';clear hs hs' hx hd hg hc e1 e2 c1 c2 hB hB1 hsz h2
       gi_wp2_with fail
       refine ⟨trivial,(CallsIn.inRound l' (callsIn_wide.2 hj)).mono ?_⟩;rintro e w3 ⟨rfl,rfl⟩;obtain ⟨e00,e01⟩:=id e0;obtain ⟨g00,g01⟩:=HE.out.1;obtain ⟨g10,g11⟩:=HE.out.2.1
       gi_wp2
       exact ⟨KeepsOthers.setCell _ _ _,trivial,⟨d,HS'.out,e0,HE.out.1,HE.out.2.1⟩,HE.out.2.2⟩
    case done =>
     rintro D ys W hD rfl ⟨⟨c,hg,c0,c1,c2⟩,hB⟩ hK;rw [hps] at hg;have hG:=HG2.out;rw [hg] at hG;simp only at hG;have hDw:w.heap.size≤D:=by have:=HN.out;omega
     obtain ⟨f0,f1⟩:=id c0;obtain ⟨g00,g01⟩:=id c1;obtain ⟨g10,g11⟩:=id c2;have HE:=Lib.hid (And.intro c1 (And.intro c2 hB));have HK:=Lib.hid hK
     by_cases hc:c=[]
     ·have b1:(str c).toList.isEmpty=true:=by rw [str_empty];simpa using hc
      obtain rfl:([],6)=G:=by rw [← hG,if_pos hc]
      clear hG hc hg HG2 c0 c1 c2 hB hK
      gi_wp2
      have hK':=((KeepsOthers.setCell W ⟨w.heap.size,0,none⟩ (.string ⟨#[]⟩)).trans (KeepsOthers.setCell _ ⟨w.heap.size+1,0,none⟩ (.int .i64 6))).same D _ HK.out rfl;refine ⟨by simp,.inl ⟨_,_,rfl,run_takeDeferred hK',?_⟩⟩
      have k0:=((HE.out.1.set (.string ⟨#[]⟩)).other (.int .i64 6) (show w.heap.size+1≠_ by omega)).kept (grownBy_putObj' _ D (.deferred none)) (fun r e => by cases e;exact ⟨_,hK',rfl⟩)
      have k1:=((HE.out.2.1.other (.string ⟨#[]⟩) (show w.heap.size≠_ by omega)).set (.int .i64 6)).kept (grownBy_putObj' _ D (.deferred none)) (fun r e => by cases e;exact ⟨_,hK',rfl⟩)
      exact ⟨_,ret_cells _ _ w.heap.size (w.heap.size+1) ⟨#[]⟩ 6 rfl rfl k0 k1,rfl,((HE.out.2.2.setCell (p:=⟨w.heap.size,0,none⟩) (Nat.le_refl _) _).setCell (p:=⟨w.heap.size+1,0,none⟩) (by simp) _).trans (belowK_b (w:=w) (Nat.le_refl _) _ D _ _ hDw hK' rfl rfl)⟩
     ·have b1:(str c).toList.isEmpty=false:=by rw [str_empty];simpa using hc
      obtain rfl:(c,0)=G:=by rw [← hG,if_neg hc]
      clear hG hc hg HG2 c0 c1 c2 hB hK
      gi_wp2
      have hK':=((KeepsOthers.setCell W ⟨w.heap.size,0,none⟩ (.string (str c))).trans (KeepsOthers.setCell _ ⟨w.heap.size+1,0,none⟩ (.int .i64 0))).same D _ HK.out rfl;refine ⟨by simp,.inl ⟨_,_,rfl,run_takeDeferred hK',?_⟩⟩
      have k0:=((HE.out.1.set (.string (str c))).other (.int .i64 0) (show w.heap.size+1≠_ by omega)).kept (grownBy_putObj' _ D (.deferred none)) (fun r e => by cases e;exact ⟨_,hK',rfl⟩)
      have k1:=((HE.out.2.1.other (.string (str c)) (show w.heap.size≠_ by omega)).set (.int .i64 0)).kept (grownBy_putObj' _ D (.deferred none)) (fun r e => by cases e;exact ⟨_,hK',rfl⟩)
      exact ⟨_,ret_cells _ _ w.heap.size (w.heap.size+1) (str c) 0 rfl rfl k0 k1,rfl,((HE.out.2.2.setCell (p:=⟨w.heap.size,0,none⟩) (Nat.le_refl _) _).setCell (p:=⟨w.heap.size+1,0,none⟩) (by simp) _).trans (belowK_b (w:=w) (Nat.le_refl _) _ D _ _ hDw hK' rfl rfl)⟩
    case stop =>
     rintro D c pre W hD hpre ⟨⟨rfl,hn,c1,c2⟩,hB⟩ hK;have hG:=HG2.out;obtain ⟨tl,htl⟩:=hpre;rw [← hps,← htl,List.map_append,goP_none _ _ hn] at hG;obtain rfl:([],6)=G:=hG;have hDw:w.heap.size≤D:=by have:=HN.out;omega
     have HE:=Lib.hid (And.intro c1 (And.intro c2 hB));have HK:=Lib.hid hK;clear htl hn HG2 c1 c2 hB hK
     gi_wp2
     have hK':=HK.out;refine ⟨by simp,.inl ⟨_,_,rfl,run_takeDeferred hK',?_⟩⟩
     have k0:=HE.out.1.kept (grownBy_putObj' _ D (.deferred none)) (fun r e => by cases e;exact ⟨_,hK',rfl⟩)
     have k1:=HE.out.2.1.kept (grownBy_putObj' _ D (.deferred none)) (fun r e => by cases e;exact ⟨_,hK',rfl⟩)
     exact ⟨_,ret_cells _ _ w.heap.size (w.heap.size+1) ⟨#[]⟩ 6 rfl rfl k0 k1,rfl,HE.out.2.2.trans (belowK_b (w:=w) (Nat.le_refl _) _ D _ _ hDw hK' rfl rfl)⟩
end Go.Proofs.YtnpkcneojilmkaaGreatDoor.Path
end
section
namespace Go.Proofs.YtnpkcneojilmkaaGreatDoor.Mem
open Go.ChangeShapes Go.WideShapes Go.ChangeAt Go.RowKit Base Byt Txt Bk Hp Head Num Path Go.Lib
set_option linter.unusedVariables false
set_option maxRecDepth 100000
theorem u8_lit (k:UInt8) (n:Nat) (hn:n < 256):((k.toNat:Int)=(n:Int)) ↔ k=UInt8.ofNat n:=by
 constructor
 ·intro h
  apply UInt8.toNat.inj;rw [UInt8.toNat_ofNat'];omega
 ·rintro rfl
  rw [UInt8.toNat_ofNat'];omega
theorem known_any (k:UInt8) (w:World) :
 Calls Tryz.prog 45 #[.int .u8 (k.toNat:Int)] w fun e w' => e=.returned (.bool (knownD k))∧w=w':=by
 have hb:=k.toNat_lt;have e0:(k.toNat:Int)=48 ↔ k=48:=u8_lit k 48 (by decide)
 have e1:(k.toNat:Int)=49 ↔ k=49:=u8_lit k 49 (by decide)
 have e2:(k.toNat:Int)=50 ↔ k=50:=u8_lit k 50 (by decide)
 have e3:(k.toNat:Int)=53 ↔ k=53:=u8_lit k 53 (by decide)
 obtain ⟨r,hr⟩:∃ r,knownD k=r:=⟨_,rfl⟩;rw [hr];unfold knownD at hr;obtain ⟨x,hx⟩:∃ x:Int,x=(k.toNat:Int):=⟨_,rfl⟩;rw [← hx] at e0 e1 e2 e3 ⊢
 by_cases h0:x=48
 ·obtain rfl:r=true:=by rw [← hr];simp [e0.1 h0]
  clear e0 e1 e2 e3 hr hx hb;subst h0
  go_enter Tryz.func45,Tryz.ntmps45
  go_wp2
  go_ret
  exact ⟨rfl,rfl⟩
 ·by_cases h1:x=49
  ·obtain rfl:r=true:=by rw [← hr];simp [e1.1 h1]
   clear e0 e1 e2 e3 hr hx hb;subst h1
   go_enter Tryz.func45,Tryz.ntmps45
   go_wp2
   go_ret
   exact ⟨rfl,rfl⟩
  ·by_cases h2:x=50
   ·obtain rfl:r=true:=by rw [← hr];simp [e2.1 h2]
    clear e0 e1 e2 e3 hr hx hb;subst h2
    go_enter Tryz.func45,Tryz.ntmps45
    go_wp2
    go_ret
    exact ⟨rfl,rfl⟩
   ·by_cases h3:x=53
    ·obtain rfl:r=true:=by rw [← hr];simp [e3.1 h3]
     clear e0 e1 e2 e3 hr hx hb;subst h3
     go_enter Tryz.func45,Tryz.ntmps45
     go_wp2
     go_ret
     exact ⟨rfl,rfl⟩
    ·obtain rfl:r=false:=by
      rw [← hr];have a0:¬ k=48:=fun h => h0 (e0.2 h)
      have a1:¬ k=49:=fun h => h1 (e1.2 h)
      have a2:¬ k=50:=fun h => h2 (e2.2 h)
      have a3:¬ k=53:=fun h => h3 (e3.2 h)
      simp [a0,a1,a2,a3]
     clear e0 e1 e2 e3 hr hx hb
     go_enter Tryz.func45,Tryz.ntmps45
     go_wp2
     go_ret
     exact ⟨rfl,rfl⟩
theorem size_any (k:UInt8) (n:Int) (w:World) :
 Calls Tryz.prog 67 #[.int .u8 (k.toNat:Int),.int .i64 n] w fun e w' => e=.returned (.int .i64 (sizeD k n))∧w=w':=by
 have hb:=k.toNat_lt;have e0:(k.toNat:Int)=48 ↔ k=48:=u8_lit k 48 (by decide)
 obtain ⟨r,hr⟩:∃ r,sizeD k n=r:=⟨_,rfl⟩;rw [hr];unfold sizeD at hr;obtain ⟨x,hx⟩:∃ x:Int,x=(k.toNat:Int):=⟨_,rfl⟩;rw [← hx] at e0 ⊢
 by_cases h0:x=48
 ·have hk:k=48:=e0.1 h0
  rw [if_neg (by simp [hk])] at hr
  by_cases h1:1048576 < n
  ·rw [if_pos h1] at hr
   subst hr;clear e0 hx hb;subst h0
   go_enter Tryz.func67,Tryz.ntmps67
   go_wp2
   go_ret
   exact ⟨rfl,rfl⟩
  ·rw [if_neg h1] at hr
   subst hr;clear e0 hx hb;subst h0
   go_enter Tryz.func67,Tryz.ntmps67
   go_wp2
   go_ret
   exact ⟨rfl,rfl⟩
 ·have hk:¬ k=48:=fun h => h0 (e0.2 h)
  by_cases hn:n=0
  ·subst hn
   rw [if_neg (by simp),if_neg (by omega)] at hr
   subst hr;clear e0 hx hb
   go_enter Tryz.func67,Tryz.ntmps67
   go_wp2
   go_ret
   exact ⟨rfl,rfl⟩
  ·rw [if_pos ⟨hk,hn⟩] at hr
   subst hr;clear e0 hx hb;have b0:(x != 48)=true:=by simpa using h0
   have bn:(n != 0)=true:=by simpa using hn
   go_enter Tryz.func67,Tryz.ntmps67
   go_wp2
   go_ret
   exact ⟨rfl,rfl⟩
theorem inBounds_any (a b c d:Int) (w:World) :
 Calls Tryz.prog 65 #[.agg #[.int .i64 a,.int .i64 b,.int .i64 c,.int .i64 d]] w fun e w' => e=.returned (.bool (metaOk a b c d))∧Below w.heap.size w w':=by
 obtain ⟨r,hr⟩:∃ r,metaOk a b c d=r:=⟨_,rfl⟩;rw [hr];unfold metaOk at hr;have hb:=(Below.refl w.heap.size w).alloc (Nat.le_refl _) (.cells #[.int .i64 a,.int .i64 b,.int .i64 c,.int .i64 d] 23);have HB:=Lib.hid hb;clear hb
 by_cases h1:0≤a∧a≤4095
 ·by_cases h2:0≤b∧b≤2147483647
  ·by_cases h3:0≤c∧c≤2147483647
   ·by_cases h4:0≤d∧d≤1099511627776
    ·obtain rfl:r=true:=by rw [← hr];simp only [decide_eq_true_eq];omega
     clear hr
     go_enter Tryz.func65,Tryz.ntmps65
     go_wp2_with (go_at_call 98;refine (in_yes _ _ _ _ (by omega) (by omega)).mono ?_;rintro e w' ⟨rfl,rfl⟩)
     go_ret
     exact ⟨rfl,HB.out⟩
    ·obtain rfl:r=false:=by rw [← hr];simp only [decide_eq_false_iff_not];omega
     clear hr
     go_enter Tryz.func65,Tryz.ntmps65
     go_wp2_with (go_at_call 98;first | (refine (in_yes _ _ _ _ (by omega) (by omega)).mono ?_;rintro e w' ⟨rfl,rfl⟩) | (refine (in_no _ _ _ _ (by omega)).mono ?_;rintro e w' ⟨rfl,rfl⟩))
     go_ret
     exact ⟨rfl,HB.out⟩
   ·obtain rfl:r=false:=by rw [← hr];simp only [decide_eq_false_iff_not];omega
    clear hr
    go_enter Tryz.func65,Tryz.ntmps65
    go_wp2_with (go_at_call 98;first | (refine (in_yes _ _ _ _ (by omega) (by omega)).mono ?_;rintro e w' ⟨rfl,rfl⟩) | (refine (in_no _ _ _ _ (by omega)).mono ?_;rintro e w' ⟨rfl,rfl⟩))
    go_ret
    exact ⟨rfl,HB.out⟩
  ·obtain rfl:r=false:=by rw [← hr];simp only [decide_eq_false_iff_not];omega
   clear hr
   go_enter Tryz.func65,Tryz.ntmps65
   go_wp2_with (go_at_call 98;first | (refine (in_yes _ _ _ _ (by omega) (by omega)).mono ?_;rintro e w' ⟨rfl,rfl⟩) | (refine (in_no _ _ _ _ (by omega)).mono ?_;rintro e w' ⟨rfl,rfl⟩))
   go_ret
   exact ⟨rfl,HB.out⟩
 ·obtain rfl:r=false:=by rw [← hr];simp only [decide_eq_false_iff_not];omega
  clear hr
  go_enter Tryz.func65,Tryz.ntmps65
  go_wp2_with (go_at_call 98;first | (refine (in_yes _ _ _ _ (by omega) (by omega)).mono ?_;rintro e w' ⟨rfl,rfl⟩) | (refine (in_no _ _ _ _ (by omega)).mono ?_;rintro e w' ⟨rfl,rfl⟩))
  go_ret
  exact ⟨rfl,HB.out⟩
theorem goal_any (k:UInt8) (l:List UInt8) (w:World) (hm:l.length≤1000000000000) (hT:Tabs w) :
 Calls Tryz.prog 66 #[.int .u8 (k.toNat:Int),.string (str l)] w fun e w' => e=.returned (.tuple #[.string (str (goalD k l).1),.int .i64 (goalD k l).2])∧Below w.heap.size w w':=by
 have hC:=clean_any l w hm hT;have hG:=target_any l w hm hT;have e1:(k.toNat:Int)=49 ↔ k=49:=u8_lit k 49 (by decide)
 have e2:(k.toNat:Int)=50 ↔ k=50:=u8_lit k 50 (by decide)
 unfold goalD;obtain ⟨x,hx⟩:∃ x:Int,x=(k.toNat:Int):=⟨_,rfl⟩;rw [← hx] at e1 e2 ⊢
 by_cases h1:x=49
 ·rw [if_pos (e1.1 h1)]
  clear e1 e2 hx;subst h1
  go_enter Tryz.func66,Tryz.ntmps66
  go_wp2_with (go_at_call 64;refine hC.mono ?_;rintro e w1 ⟨rfl,hb⟩)
  go_ret2
  exact ⟨rfl,hb⟩
 ·rw [if_neg (fun h => h1 (e1.2 h))]
  by_cases h2:x=50
  ·rw [if_pos (e2.1 h2)]
   clear e1 e2 hx;subst h2
   go_enter Tryz.func66,Tryz.ntmps66
   go_wp2_with (go_at_call 99;refine hG.mono ?_;rintro e w1 ⟨rfl,hb⟩)
   go_ret2
   exact ⟨rfl,hb⟩
  ·rw [if_neg (fun h => h2 (e2.2 h))]
   clear e1 e2 hx
   go_enter Tryz.func66,Tryz.ntmps66
   go_wp2
   go_ret2
   exact ⟨rfl,Below.refl _ _⟩
end Go.Proofs.YtnpkcneojilmkaaGreatDoor.Mem
end
section
namespace Go.Proofs.YtnpkcneojilmkaaGreatDoor.Mem
open Go.ChangeShapes Go.WideShapes Go.ChangeAt Go.RowKit Base Byt Txt Bk Hp Head Num Path Go.Lib
set_option linter.unusedVariables false
set_option maxRecDepth 100000
theorem load_mem (w:World) (g:Nat) (a b:ByteArray) (k m u i t:Int) (p:Option Addr) (n c:Nat) (h:Blk w g 26 #[.string a,.string b,.int .u8 k,.int .i64 m,.int .i64 u,.int .i64 i,.int .i64 t,.slice p n c]) :
 (loadVar 26 ⟨g,0,none⟩).run Tryz.prog w=.ok (.agg #[.string a,.string b,.int .u8 k,.int .i64 m,.int .i64 u,.int .i64 i,.int .i64 t,.slice p n c]) w:=by
 have c0:=h.cell 0;have c1:=h.cell 1;have c2:=h.cell 2;have c3:=h.cell 3;have c4:=h.cell 4;have c5:=h.cell 5;have c6:=h.cell 6;have c7:=h.cell 7;clear h
 go_simp
theorem ret_memB {fn:Func} (hf:fn.results=#[.cell 2 26,.tmp 3]) (tmps:Array Value) (w:World) (g:Nat) (v:Value) (ht:tmps.getD 2 undef=.pointer (some ⟨g,0,none⟩)) (hv:tmps.getD 3 undef=v)
 (m:MemV) (p:Option Addr) (c:Nat) (hb:Blk w g 26 (memC m p c)):(results fn tmps).run Tryz.prog w=.ok (.tuple #[.agg (memC m p c),v]) w:=by
 rw [results_cell_tmp hf,ht,hv];have hl:=load_mem w g _ _ _ _ _ _ _ _ _ _ hb;simp only [asAddr,Sem.run_pure,hl,Result.andThen];rfl
theorem blk8 {w:World} {g:Nat} {m:MemV} {p:Option Addr} {c:Nat} (hb:Blk w g 26 (memC m p c)) (a0 a1 a2 a3 a4 a5 a6 a7:Value) :
 Blk ((((((((w.setCell ⟨g,0,none⟩ a0).setCell ⟨g,1,none⟩ a1).setCell ⟨g,2,none⟩ a2).setCell ⟨g,3,none⟩ a3).setCell ⟨g,4,none⟩ a4).setCell ⟨g,5,none⟩ a5).setCell ⟨g,6,none⟩ a6).setCell ⟨g,7,none⟩ a7) g 26 #[a0,a1,a2,a3,a4,a5,a6,a7]:=
 (((((((hb.set 0 a0 (by show 0 < 8;decide)).set 1 a1 (by show 1 < 8;decide)).set 2 a2 (by show 2 < 8;decide)).set 3 a3 (by show 3 < 8;decide)).set 4 a4 (by show 4 < 8;decide)).set 5 a5 (by show 5 < 8;decide)).set 6 a6 (by show 6 < 8;decide)).set 7 a7 (by show 7 < 8;decide)
theorem below8 {w w':World} {g:Nat} (hk:Below w.heap.size w w') (hg:w.heap.size≤g) (a0 a1 a2 a3 a4 a5 a6 a7:Value) :
 Below w.heap.size w ((((((((w'.setCell ⟨g,0,none⟩ a0).setCell ⟨g,1,none⟩ a1).setCell ⟨g,2,none⟩ a2).setCell ⟨g,3,none⟩ a3).setCell ⟨g,4,none⟩ a4).setCell ⟨g,5,none⟩ a5).setCell ⟨g,6,none⟩ a6).setCell ⟨g,7,none⟩ a7):=
 ((((((((hk.setCell (p:=⟨g,0,none⟩) hg a0).setCell (p:=⟨g,1,none⟩) hg a1).setCell (p:=⟨g,2,none⟩) hg a2).setCell (p:=⟨g,3,none⟩) hg a3).setCell (p:=⟨g,4,none⟩) hg a4).setCell (p:=⟨g,5,none⟩) hg a5).setCell (p:=⟨g,6,none⟩) hg a6).setCell (p:=⟨g,7,none⟩) hg a7)
def FMid (w wi:World) (h:HeadV):Prop:=Below w.heap.size w wi∧Blk wi w.heap.size 41 (headC h)∧Blk wi (w.heap.size+1) 26 (memC noM none 0)
theorem FMid.below {w wi wj:World} {h:HeadV} (hm:FMid w wi h) (hb:Below wi.heap.size wi wj):FMid w wj h:=
 ⟨hm.1.trans (hb.mono hm.1.size),hm.2.1.below hb hm.2.1.lt,hm.2.2.below hb hm.2.2.lt⟩
set_option maxHeartbeats 4000000 in
theorem fromHead_any (h:HeadV) (w:World) (h1:h.name.length≤1000000000000) (h2:h.link.length≤1000000000000) (hT:Tabs w) :
 Calls Tryz.prog 46 #[.agg (headC h)] w fun e w' => e=.returned (.tuple #[.agg (memC (fromD h).1 none 0),.int .i64 (fromD h).2])∧Below w.heap.size w w':=by
 obtain ⟨⟨cp,ce⟩,hc⟩:∃ x,cleanD 9 6 h.name=x:=⟨_,rfl⟩;obtain ⟨⟨gp,ge⟩,hg⟩:∃ x,goalD h.kind h.link=x:=⟨_,rfl⟩;obtain ⟨mo,hmo⟩:∃ x,metaOk h.mode h.uid h.gid h.time=x:=⟨_,rfl⟩;obtain ⟨sz,hsz⟩:∃ x,sizeD h.kind h.size=x:=⟨_,rfl⟩
 have CC:Hid (∀ wi,Below w.heap.size w wi → Calls Tryz.prog 64 #[.string (str h.name)] wi fun e w' => e=.returned (.tuple #[.string (str cp),.int .i64 ce])∧Below wi.heap.size wi w'):=
  Lib.hid (fun wi hb => by have:=clean_any h.name wi h1 (hT.below hb);rwa [hc] at this)
 have CM:Hid (∀ wi,Calls Tryz.prog 65 #[.agg #[.int .i64 h.mode,.int .i64 h.uid,.int .i64 h.gid,.int .i64 h.time]] wi fun e w' => e=.returned (.bool mo)∧Below wi.heap.size wi w'):=
  Lib.hid (fun wi => by have:=inBounds_any h.mode h.uid h.gid h.time wi;rwa [hmo] at this)
 have CG:Hid (∀ wi,Below w.heap.size w wi → Calls Tryz.prog 66 #[.int .u8 (h.kind.toNat:Int),.string (str h.link)] wi fun e w' => e=.returned (.tuple #[.string (str gp),.int .i64 ge])∧Below wi.heap.size wi w'):=
  Lib.hid (fun wi hb => by have:=goal_any h.kind h.link wi h2 (hT.below hb);rwa [hg] at this)
 have CS:Hid (∀ wi,Calls Tryz.prog 67 #[.int .u8 (h.kind.toNat:Int),.int .i64 h.size] wi fun e w' => e=.returned (.int .i64 sz)∧wi=w'):=
  Lib.hid (fun wi => by have:=size_any h.kind h.size wi;rwa [hsz] at this)
 obtain ⟨U,hU⟩:∃ U,fromD h=U:=⟨_,rfl⟩;rw [hU]
 have HE:Hid (U=if ce≠0 then (noM,ce) else if mo=false then (noM,4) else if ge≠0 then (noM,ge) else if sz≠0 then (noM,sz) else (⟨cp,gp,h.kind,h.mode,h.uid,h.gid,h.time,[]⟩,0)):=
  Lib.hid (by rw [← hU];unfold fromD;rw [hc,hg,hmo,hsz])
 clear h1 h2 hT hU hc hg hmo hsz
 have HM0:Hid (FMid w ((w.alloc (.cells (headC h) 41)).alloc (.cells (memC noM none 0) 26)) h):=by
  have b1:=Blk.new (w.alloc (.cells (headC h) 41)) 26 (memC noM none 0);rw [World.size_alloc] at b1;exact Lib.hid ⟨((Below.refl _ w).alloc (Nat.le_refl _) _).alloc (by simp) _,(Blk.new w 41 (headC h)).alloc _,b1⟩
 obtain ⟨kn,hkn⟩:∃ kn:Int,(h.kind.toNat:Int)=kn:=⟨_,rfl⟩;have HKN:=Lib.hid hkn;simp only [headC,hkn] at HM0 ⊢;rw [hkn] at CG CS;clear hkn
 by_cases a1:ce=0
 ·subst a1
  cases mo with
  | false =>
    have E:Hid (U=(noM,4)):=Lib.hid (by rw [HE.out];simp)
    go_enter Tryz.func46,Tryz.ntmps46
    go_wp2_with fail
    refine (CC.out _ HM0.out.1).mono ?_
    rintro e w1 ⟨rfl,hb⟩;have HM1:=Lib.hid (HM0.out.below hb);clear hb HM0;have b1:=HM1.out.2.1;have x3:=b1.cell 3;have x4:=b1.cell 4;have x5:=b1.cell 5;have x6:=b1.cell 6;simp only [headC,List.getElem?_toArray,List.getElem?_cons_zero,List.getElem?_cons_succ] at x3 x4 x5 x6;clear b1
    go_wp2_with fail
    refine (CM.out _).mono ?_
    rintro e w2 ⟨rfl,hb⟩;have HM2:=Lib.hid (HM1.out.below hb);clear hb HM1 x3 x4 x5 x6;have b2:=HM2.out.2.2;have r0:=b2.cell 0;have f0:=b2.frozen 0;have r1:=b2.cell 1;have f1:=b2.frozen 1;have r2:=b2.cell 2;have f2:=b2.frozen 2;have r3:=b2.cell 3;have f3:=b2.frozen 3;have r4:=b2.cell 4;have f4:=b2.frozen 4;have r5:=b2.cell 5;have f5:=b2.frozen 5;have r6:=b2.cell 6;have f6:=b2.frozen 6;have r7:=b2.cell 7;have f7:=b2.frozen 7;simp only [memC,noM,List.getElem?_toArray,List.getElem?_cons_zero,List.getElem?_cons_succ] at r0 r1 r2 r3 r4 r5 r6 r7;clear b2
    go_wp2
    refine bodyPost_ret (ret_memB rfl _ _ (w.heap.size+1) _ rfl rfl noM none 0 (blk8 HM2.out.2.2 _ _ _ _ _ _ _ _)) rfl ?_
    exact ⟨by rw [E.out];rfl,below8 HM2.out.1 (by omega) _ _ _ _ _ _ _ _⟩
  | true =>
    by_cases a2:ge=0
    ·subst a2
     by_cases a3:sz=0
     ·subst a3
      have E:Hid (U=(⟨cp,gp,h.kind,h.mode,h.uid,h.gid,h.time,[]⟩,0)):=Lib.hid (by rw [HE.out];simp)
      go_enter Tryz.func46,Tryz.ntmps46
      go_wp2_with fail
      refine (CC.out _ HM0.out.1).mono ?_
      rintro e w1 ⟨rfl,hb⟩;have HM1:=Lib.hid (HM0.out.below hb);clear hb HM0;have b1:=HM1.out.2.1;have x3:=b1.cell 3;have x4:=b1.cell 4;have x5:=b1.cell 5;have x6:=b1.cell 6;simp only [headC,List.getElem?_toArray,List.getElem?_cons_zero,List.getElem?_cons_succ] at x3 x4 x5 x6;clear b1
      go_wp2_with fail
      refine (CM.out _).mono ?_
      rintro e w2 ⟨rfl,hb⟩;have HM2:=Lib.hid (HM1.out.below hb);clear hb HM1 x3 x4 x5 x6;have b1:=HM2.out.2.1;have x1:=b1.cell 1;have x2:=b1.cell 2;simp only [headC,List.getElem?_toArray,List.getElem?_cons_zero,List.getElem?_cons_succ,HKN.out] at x1 x2;clear b1
      go_wp2_with fail
      refine (CG.out _ HM2.out.1).mono ?_
      rintro e w3 ⟨rfl,hb⟩;have HM3:=Lib.hid (HM2.out.below hb);clear hb HM2 x1 x2;have b1:=HM3.out.2.1;have x2:=b1.cell 2;have x7:=b1.cell 7;simp only [headC,List.getElem?_toArray,List.getElem?_cons_zero,List.getElem?_cons_succ,HKN.out] at x2 x7;clear b1
      go_wp2_with fail
      refine (CS.out _).mono ?_
      rintro e w4 ⟨rfl,rfl⟩;clear x2 x7;have b1:=HM3.out.2.1;have x2:=b1.cell 2;have x3:=b1.cell 3;have x4:=b1.cell 4;have x5:=b1.cell 5;have x6:=b1.cell 6;simp only [headC,List.getElem?_toArray,List.getElem?_cons_zero,List.getElem?_cons_succ,HKN.out] at x2 x3 x4 x5 x6;clear b1;have hkk:=HKN.out;subst hkk;have b2:=HM3.out.2.2;have r0:=b2.cell 0;have f0:=b2.frozen 0;have r1:=b2.cell 1;have f1:=b2.frozen 1;have r2:=b2.cell 2;have f2:=b2.frozen 2;have r3:=b2.cell 3;have f3:=b2.frozen 3;have r4:=b2.cell 4;have f4:=b2.frozen 4;have r5:=b2.cell 5;have f5:=b2.frozen 5
      have r6:=b2.cell 6;have f6:=b2.frozen 6;have r7:=b2.cell 7;have f7:=b2.frozen 7;simp only [memC,noM,List.getElem?_toArray,List.getElem?_cons_zero,List.getElem?_cons_succ] at r0 r1 r2 r3 r4 r5 r6 r7;clear b2
      go_wp2
      refine bodyPost_ret (ret_memB rfl _ _ (w.heap.size+1) _ rfl rfl ⟨cp,gp,h.kind,h.mode,h.uid,h.gid,h.time,[]⟩ none 0 (blk8 HM3.out.2.2 _ _ _ _ _ _ _ _)) rfl ?_
      exact ⟨by rw [E.out];rfl,below8 HM3.out.1 (by omega) _ _ _ _ _ _ _ _⟩
     ·have E:Hid (U=(noM,sz)):=Lib.hid (by rw [HE.out];simp [a3])
      go_enter Tryz.func46,Tryz.ntmps46
      go_wp2_with fail
      refine (CC.out _ HM0.out.1).mono ?_
      rintro e w1 ⟨rfl,hb⟩;have HM1:=Lib.hid (HM0.out.below hb);clear hb HM0;have b1:=HM1.out.2.1;have x3:=b1.cell 3;have x4:=b1.cell 4;have x5:=b1.cell 5;have x6:=b1.cell 6;simp only [headC,List.getElem?_toArray,List.getElem?_cons_zero,List.getElem?_cons_succ] at x3 x4 x5 x6;clear b1
      go_wp2_with fail
      refine (CM.out _).mono ?_
      rintro e w2 ⟨rfl,hb⟩;have HM2:=Lib.hid (HM1.out.below hb);clear hb HM1 x3 x4 x5 x6;have b1:=HM2.out.2.1;have x1:=b1.cell 1;have x2:=b1.cell 2;simp only [headC,List.getElem?_toArray,List.getElem?_cons_zero,List.getElem?_cons_succ,HKN.out] at x1 x2;clear b1
      go_wp2_with fail
      refine (CG.out _ HM2.out.1).mono ?_
      rintro e w3 ⟨rfl,hb⟩;have HM3:=Lib.hid (HM2.out.below hb);clear hb HM2 x1 x2;have b1:=HM3.out.2.1;have x2:=b1.cell 2;have x7:=b1.cell 7;simp only [headC,List.getElem?_toArray,List.getElem?_cons_zero,List.getElem?_cons_succ,HKN.out] at x2 x7;clear b1
      go_wp2_with fail
      refine (CS.out _).mono ?_
      rintro e w4 ⟨rfl,rfl⟩;clear x2 x7;have b2:=HM3.out.2.2;have r0:=b2.cell 0;have f0:=b2.frozen 0;have r1:=b2.cell 1;have f1:=b2.frozen 1;have r2:=b2.cell 2;have f2:=b2.frozen 2;have r3:=b2.cell 3;have f3:=b2.frozen 3;have r4:=b2.cell 4;have f4:=b2.frozen 4;have r5:=b2.cell 5;have f5:=b2.frozen 5;have r6:=b2.cell 6;have f6:=b2.frozen 6;have r7:=b2.cell 7;have f7:=b2.frozen 7;simp only [memC,noM,List.getElem?_toArray,List.getElem?_cons_zero,List.getElem?_cons_succ] at r0 r1 r2 r3 r4 r5 r6 r7;clear b2
      go_wp2
      refine bodyPost_ret (ret_memB rfl _ _ (w.heap.size+1) _ rfl rfl noM none 0 (blk8 HM3.out.2.2 _ _ _ _ _ _ _ _)) rfl ?_
      exact ⟨by rw [E.out];rfl,below8 HM3.out.1 (by omega) _ _ _ _ _ _ _ _⟩
    ·have E:Hid (U=(noM,ge)):=Lib.hid (by rw [HE.out];simp [a2])
     go_enter Tryz.func46,Tryz.ntmps46
     go_wp2_with fail
     refine (CC.out _ HM0.out.1).mono ?_
     rintro e w1 ⟨rfl,hb⟩;have HM1:=Lib.hid (HM0.out.below hb);clear hb HM0;have b1:=HM1.out.2.1;have x3:=b1.cell 3;have x4:=b1.cell 4;have x5:=b1.cell 5;have x6:=b1.cell 6;simp only [headC,List.getElem?_toArray,List.getElem?_cons_zero,List.getElem?_cons_succ] at x3 x4 x5 x6;clear b1
     go_wp2_with fail
     refine (CM.out _).mono ?_
     rintro e w2 ⟨rfl,hb⟩;have HM2:=Lib.hid (HM1.out.below hb);clear hb HM1 x3 x4 x5 x6;have b1:=HM2.out.2.1;have x1:=b1.cell 1;have x2:=b1.cell 2;simp only [headC,List.getElem?_toArray,List.getElem?_cons_zero,List.getElem?_cons_succ,HKN.out] at x1 x2;clear b1
     go_wp2_with fail
     refine (CG.out _ HM2.out.1).mono ?_
     rintro e w3 ⟨rfl,hb⟩;have HM3:=Lib.hid (HM2.out.below hb);clear hb HM2 x1 x2;have b2:=HM3.out.2.2;have r0:=b2.cell 0;have f0:=b2.frozen 0;have r1:=b2.cell 1;have f1:=b2.frozen 1;have r2:=b2.cell 2;have f2:=b2.frozen 2;have r3:=b2.cell 3;have f3:=b2.frozen 3;have r4:=b2.cell 4;have f4:=b2.frozen 4;have r5:=b2.cell 5;have f5:=b2.frozen 5;have r6:=b2.cell 6;have f6:=b2.frozen 6;have r7:=b2.cell 7;have f7:=b2.frozen 7;simp only [memC,noM,List.getElem?_toArray,List.getElem?_cons_zero,List.getElem?_cons_succ] at r0 r1 r2 r3 r4 r5 r6 r7;clear b2
     go_wp2
     refine bodyPost_ret (ret_memB rfl _ _ (w.heap.size+1) _ rfl rfl noM none 0 (blk8 HM3.out.2.2 _ _ _ _ _ _ _ _)) rfl ?_
     exact ⟨by rw [E.out];rfl,below8 HM3.out.1 (by omega) _ _ _ _ _ _ _ _⟩
 ·have E:Hid (U=(noM,ce)):=Lib.hid (by rw [HE.out];simp [a1])
  go_enter Tryz.func46,Tryz.ntmps46
  go_wp2_with fail
  refine (CC.out _ HM0.out.1).mono ?_
  rintro e w1 ⟨rfl,hb⟩;have HM1:=Lib.hid (HM0.out.below hb);clear hb HM0;have b2:=HM1.out.2.2;have r0:=b2.cell 0;have f0:=b2.frozen 0;have r1:=b2.cell 1;have f1:=b2.frozen 1;have r2:=b2.cell 2;have f2:=b2.frozen 2;have r3:=b2.cell 3;have f3:=b2.frozen 3;have r4:=b2.cell 4;have f4:=b2.frozen 4;have r5:=b2.cell 5;have f5:=b2.frozen 5;have r6:=b2.cell 6;have f6:=b2.frozen 6;have r7:=b2.cell 7;have f7:=b2.frozen 7;simp only [memC,noM,List.getElem?_toArray,List.getElem?_cons_zero,List.getElem?_cons_succ] at r0 r1 r2 r3 r4 r5 r6 r7;clear b2
  go_wp2
  refine bodyPost_ret (ret_memB rfl _ _ (w.heap.size+1) _ rfl rfl noM none 0 (blk8 HM1.out.2.2 _ _ _ _ _ _ _ _)) rfl ?_
  exact ⟨by rw [E.out];rfl,below8 HM1.out.1 (by omega) _ _ _ _ _ _ _ _⟩
theorem fromD_body (h:HeadV):(fromD h).1.body=[]:=by
 unfold fromD
 split
 ·rfl
 ·split
  ·rfl
  ·split
   ·rfl
   ·split<;>rfl
end Go.Proofs.YtnpkcneojilmkaaGreatDoor.Mem
end
section
namespace Go.Proofs.YtnpkcneojilmkaaGreatDoor.Mem
open Go.ChangeShapes Go.WideShapes Go.ChangeAt Go.RowKit Base Byt Txt Bk Hp Head Num Path Go.Lib
set_option linter.unusedVariables false
set_option maxRecDepth 100000
theorem rmeta_any (a b c d:Int) (w:World) :
 Calls Tryz.prog 36 #[.agg #[.int .i64 a,.int .i64 b,.int .i64 c,.int .i64 d]] w fun e w' => e=.returned (.bool (metaOk a b c d))∧Below w.heap.size w w':=by
 obtain ⟨r,hr⟩:∃ r,metaOk a b c d=r:=⟨_,rfl⟩;rw [hr];unfold metaOk at hr;have HB:=Lib.hid ((Below.refl w.heap.size w).alloc (Nat.le_refl _) (.cells #[.int .i64 a,.int .i64 b,.int .i64 c,.int .i64 d] 23))
 by_cases h0:0≤a
 ·by_cases h1:a≤4095
  ·by_cases h2:0≤b
   ·by_cases h3:b < 2147483648
    ·by_cases h4:0≤c
     ·by_cases h5:c < 2147483648
      ·by_cases h6:0≤d
       ·by_cases h7:d≤1099511627776
        ·obtain rfl:r=true:=by rw [← hr];simp only [decide_eq_true_eq];omega
         clear hr
         go_enter Tryz.func36,Tryz.ntmps36
         go_wp2
         go_ret
         exact ⟨rfl,HB.out⟩
        ·obtain rfl:r=false:=by rw [← hr];simp only [decide_eq_false_iff_not];omega
         have hd:decide (d≤1099511627776)=false:=by simpa using h7
         clear hr
         go_enter Tryz.func36,Tryz.ntmps36
         go_wp2
         go_ret
         exact ⟨rfl,HB.out⟩
       ·obtain rfl:r=false:=by rw [← hr];simp only [decide_eq_false_iff_not];omega
        have hd:decide (0≤d)=false:=by simpa using h6
        clear hr
        go_enter Tryz.func36,Tryz.ntmps36
        go_wp2
        go_ret
        exact ⟨rfl,HB.out⟩
      ·obtain rfl:r=false:=by rw [← hr];simp only [decide_eq_false_iff_not];omega
       have hd:decide (c < 2147483648)=false:=by simpa using h5
       clear hr
       go_enter Tryz.func36,Tryz.ntmps36
       go_wp2
       go_ret
       exact ⟨rfl,HB.out⟩
     ·obtain rfl:r=false:=by rw [← hr];simp only [decide_eq_false_iff_not];omega
      have hd:decide (0≤c)=false:=by simpa using h4
      clear hr
      go_enter Tryz.func36,Tryz.ntmps36
      go_wp2
      go_ret
      exact ⟨rfl,HB.out⟩
    ·obtain rfl:r=false:=by rw [← hr];simp only [decide_eq_false_iff_not];omega
     have hd:decide (b < 2147483648)=false:=by simpa using h3
     clear hr
     go_enter Tryz.func36,Tryz.ntmps36
     go_wp2
     go_ret
     exact ⟨rfl,HB.out⟩
   ·obtain rfl:r=false:=by rw [← hr];simp only [decide_eq_false_iff_not];omega
    have hd:decide (0≤b)=false:=by simpa using h2
    clear hr
    go_enter Tryz.func36,Tryz.ntmps36
    go_wp2
    go_ret
    exact ⟨rfl,HB.out⟩
  ·obtain rfl:r=false:=by rw [← hr];simp only [decide_eq_false_iff_not];omega
   have hd:decide (a≤4095)=false:=by simpa using h1
   clear hr
   go_enter Tryz.func36,Tryz.ntmps36
   go_wp2
   go_ret
   exact ⟨rfl,HB.out⟩
 ·obtain rfl:r=false:=by rw [← hr];simp only [decide_eq_false_iff_not];omega
  have hd:decide (0≤a)=false:=by simpa using h0
  clear hr
  go_enter Tryz.func36,Tryz.ntmps36
  go_wp2
  go_ret
  exact ⟨rfl,HB.out⟩
theorem rtarget_any (l:List UInt8) (w:World) (hm:l.length≤140737488351232) :
 Calls Tryz.prog 37 #[.string (str l)] w fun e w' => e=.returned (.int .i64 (targetD 9 6 l))∧w=w':=by
 have hT:=rtext_any (str l) w (by rw [str_size];omega)
 rw [str_data] at hT;have hs:(str l).size=l.length:=str_size l;obtain ⟨r,hr⟩:∃ r,targetD 9 6 l=r:=⟨_,rfl⟩;rw [hr];unfold targetD at hr
 cases hx:textD l with
 | false =>
   rw [hx] at hr hT;simp only [if_true] at hr;subst hr
   go_enter Tryz.func37,Tryz.ntmps37
   go_wp2_with fail
   refine hT.mono ?_
   rintro e w1 ⟨rfl,rfl⟩
   go_wp2
   go_ret
   exact ⟨rfl,rfl⟩
 | true =>
   rw [hx] at hr hT
   by_cases h0:l=[]
   ·subst h0
    simp at hr;subst hr
    go_enter Tryz.func37,Tryz.ntmps37
    go_wp2_with fail
    refine hT.mono ?_
    rintro e w1 ⟨rfl,rfl⟩;have e0:(str []).toList.isEmpty=true:=by rw [str_empty];rfl
    go_wp2
    go_ret
    exact ⟨rfl,rfl⟩
   ·have e0:(str l).toList.isEmpty=false:=by rw [str_empty];simpa using h0
    by_cases h1:200 < l.length
    ·have h2:(200:Int) < (l.length:Int):=by omega
     simp [h0,h1] at hr;subst hr
     go_enter Tryz.func37,Tryz.ntmps37
     go_wp2_with fail
     refine hT.mono ?_
     rintro e w1 ⟨rfl,rfl⟩
     go_wp2
     go_ret
     exact ⟨rfl,rfl⟩
    ·have h2:¬ (200:Int) < (l.length:Int):=by omega
     simp [h0,h1] at hr;subst hr
     go_enter Tryz.func37,Tryz.ntmps37
     go_wp2_with fail
     refine hT.mono ?_
     rintro e w1 ⟨rfl,rfl⟩
     go_wp2
     go_ret
     exact ⟨rfl,rfl⟩
theorem rcl_any (l:List UInt8) (w:World) (hm:l.length≤140737488351232) :
 Calls Tryz.prog 35 #[.string (str l)] w fun e w' => e=.returned (.bool (cleanOk l))∧w=w':=by
 have hC:=rclean_any (str l) w (by rw [str_size];omega)
 rw [str_data] at hC;obtain ⟨r,hr⟩:∃ r,cleanOk l=r:=⟨_,rfl⟩;rw [hr];unfold cleanOk at hr;obtain ⟨⟨cp,ce⟩,hc⟩:∃ x,cleanD 9 6 l=x:=⟨_,rfl⟩;rw [hc] at hC hr;clear hc;simp only [Prod.mk.injEq] at hr
 by_cases h0:ce=0
 ·by_cases h1:l=cp
  ·have e1:((str l).toList == (str cp).toList)=true:=by rw [str_toList,str_toList];simpa using h1
   have hr':r=true:=by rw [← hr];simp [h0,h1]
   subst h0 hr';clear hr h1
   go_enter Tryz.func35,Tryz.ntmps35
   go_wp2_with fail
   refine hC.mono ?_
   rintro e w1 ⟨rfl,rfl⟩
   go_wp2
   go_ret
   exact ⟨rfl,rfl⟩
  ·have e1:((str l).toList == (str cp).toList)=false:=by rw [str_toList,str_toList];simpa using h1
   have hr':r=false:=by rw [← hr];simp;exact fun h => absurd h.symm h1
   subst h0 hr';clear hr h1
   go_enter Tryz.func35,Tryz.ntmps35
   go_wp2_with fail
   refine hC.mono ?_
   rintro e w1 ⟨rfl,rfl⟩
   go_wp2
   go_ret
   exact ⟨rfl,rfl⟩
 ·have e1:(ce == 0)=false:=by simpa using h0
  have hr':r=false:=by rw [← hr];simp [h0]
  subst hr';clear hr
  go_enter Tryz.func35,Tryz.ntmps35
  go_wp2_with fail
  refine hC.mono ?_
  rintro e w1 ⟨rfl,rfl⟩
  go_wp2
  go_ret
  exact ⟨rfl,rfl⟩
end Go.Proofs.YtnpkcneojilmkaaGreatDoor.Mem
end
section
namespace Go.Proofs.YtnpkcneojilmkaaGreatDoor.Mem
open Go.ChangeShapes Go.WideShapes Go.ChangeAt Go.RowKit Base Byt Txt Bk Hp Head Num Path Go.Lib
set_option linter.unusedVariables false
set_option maxRecDepth 100000
set_option maxHeartbeats 4000000 in
theorem rgood_any (m:MemV) (p:Option Addr) (c:Nat) (w:World) (h1:m.path.length≤140737488351232) (h2:m.target.length≤140737488351232) :
 Calls Tryz.prog 19 #[.agg (memC m p c)] w fun e w' => e=.returned (.bool (goodD m))∧Below w.heap.size w w':=by
 have hu:=fun k hk => u8_lit m.kind k hk
 obtain ⟨kn,hkn⟩:∃ kn:Int,(m.kind.toNat:Int)=kn:=⟨_,rfl⟩;unfold memC;rw [hkn] at hu ⊢;have C1:=fun w => rcl_any m.path w h1
 have C2:=fun w => rcl_any m.target w h2
 have C3:=fun w => rtarget_any m.target w h2
 have C4:=fun w => rmeta_any m.mode m.uid m.gid m.time w
 obtain ⟨r,hr⟩:∃ r,goodD m=r:=⟨_,rfl⟩;rw [hr];unfold goodD at hr;obtain ⟨b1,hb1⟩:∃ b,cleanOk m.path=b:=⟨_,rfl⟩;obtain ⟨b2,hb2⟩:∃ b,cleanOk m.target=b:=⟨_,rfl⟩;obtain ⟨b3,hb3⟩:∃ b,targetD 9 6 m.target=b:=⟨_,rfl⟩;obtain ⟨b4,hb4⟩:∃ b,metaOk m.mode m.uid m.gid m.time=b:=⟨_,rfl⟩;simp only [hb1,hb2,hb3,hb4] at hr C1 C2 C3 C4;clear hb1 hb2 hb3 hb4 h1 h2;have hkk:m.kind=48 ↔ kn=48:=(hu 48 (by decide)).symm
 have hk1:m.kind=49 ↔ kn=49:=(hu 49 (by decide)).symm
 have hk2:m.kind=50 ↔ kn=50:=(hu 50 (by decide)).symm
 have hk3:m.kind=53 ↔ kn=53:=(hu 53 (by decide)).symm
 obtain ⟨bl,hbl⟩:∃ bl,m.body.length=bl:=⟨_,rfl⟩;have hte:(str m.target).toList.isEmpty=decide (m.target=[]):=str_empty m.target
 have hr2:(b1 && b4 && decide (bl≤1048576) && (decide (kn=48) || decide (bl=0)) && (if kn=48 ∨ kn=53 then decide (m.target=[]) else if kn=49 then b2 else if kn=50 then (b3 == 0) else false))=r:=by
  rw [← hr];have e1:(m.kind == 48)=decide (kn=48):=by rw [Bool.eq_iff_iff];simp [hkk]
  have e2:(m.body == [])=decide (bl=0):=by rw [Bool.eq_iff_iff,← hbl];simp
  have e3:(m.target == [])=decide (m.target=[]):=by rw [Bool.eq_iff_iff];simp
  have e4:(b3 == 0)=decide (b3=0):=by rw [Bool.eq_iff_iff];simp
  rw [e1,e2,e3,e4,hbl];simp only [hkk,hk1,hk2,hk3]
 rw [hbl];clear hr hkk hk1 hk2 hk3 hbl hu;have HB0:=Lib.hid ((Below.refl w.heap.size w).alloc (Nat.le_refl _) (.cells #[.string (str m.path),.string (str m.target),.int .u8 kn,.int .i64 m.mode,.int .i64 m.uid,.int .i64 m.gid,.int .i64 m.time,.slice p bl c] 26));have HX0:=Lib.hid (Blk.new w 26 #[.string (str m.path),.string (str m.target),.int .u8 kn,.int .i64 m.mode,.int .i64 m.uid,.int .i64 m.gid,.int .i64 m.time,.slice p bl c]);have HR:=Lib.hid hr2;clear hr2 hkn
 cases b1 with
 | false =>
   have hrv:r=false:=by rw [← HR.out];simp
   subst hrv
   go_enter Tryz.func19,Tryz.ntmps19
   go_wp2_with fail
   refine (C1 _).mono ?_
   rintro e w1 ⟨rfl,rfl⟩
   go_wp2
   go_ret
   exact ⟨rfl,HB0.out⟩
 | true =>
   cases b4 with
   | false =>
     have hrv:r=false:=by rw [← HR.out];simp
     subst hrv
     go_enter Tryz.func19,Tryz.ntmps19
     go_wp2_with fail
     refine (C1 _).mono ?_
     rintro e w1 ⟨rfl,rfl⟩;have b9:=HX0.out;have y3:=b9.cell 3;have y4:=b9.cell 4;have y5:=b9.cell 5;have y6:=b9.cell 6;simp only [List.getElem?_toArray,List.getElem?_cons_zero,List.getElem?_cons_succ] at y3 y4 y5 y6;clear b9
     go_wp2_with fail
     refine (C4 _).mono ?_
     rintro e w2 ⟨rfl,hb⟩;have HB2:=Lib.hid (HB0.out.trans (hb.mono HB0.out.size));have HX2:=Lib.hid (HX0.out.below hb HX0.out.lt);clear hb y3 y4 y5 y6;have b9:=HX2.out;have y1:=b9.cell 1;have y2:=b9.cell 2;have y7:=b9.cell 7;simp only [List.getElem?_toArray,List.getElem?_cons_zero,List.getElem?_cons_succ] at y1 y2 y7;clear b9
     go_wp2
     go_ret
     exact ⟨rfl,HB2.out⟩
   | true =>
     by_cases l1:1048576 < bl
     ·have l2:(1048576:Int) < (bl:Int):=by omega
      have hrv:r=false:=by rw [← HR.out];simp;omega
      subst hrv
      go_enter Tryz.func19,Tryz.ntmps19
      go_wp2_with fail
      refine (C1 _).mono ?_
      rintro e w1 ⟨rfl,rfl⟩;have b9:=HX0.out;have y3:=b9.cell 3;have y4:=b9.cell 4;have y5:=b9.cell 5;have y6:=b9.cell 6;simp only [List.getElem?_toArray,List.getElem?_cons_zero,List.getElem?_cons_succ] at y3 y4 y5 y6;clear b9
      go_wp2_with fail
      refine (C4 _).mono ?_
      rintro e w2 ⟨rfl,hb⟩;have HB2:=Lib.hid (HB0.out.trans (hb.mono HB0.out.size));have HX2:=Lib.hid (HX0.out.below hb HX0.out.lt);clear hb y3 y4 y5 y6;have b9:=HX2.out;have y1:=b9.cell 1;have y2:=b9.cell 2;have y7:=b9.cell 7;simp only [List.getElem?_toArray,List.getElem?_cons_zero,List.getElem?_cons_succ] at y1 y2 y7;clear b9
      go_wp2
      go_ret
      exact ⟨rfl,HB2.out⟩
     ·have l2:¬ (1048576:Int) < (bl:Int):=by omega
      have l3:bl≤1048576:=by omega
      by_cases k0:kn=48
      ·subst k0
       have hrv:r=decide (m.target=[]):=by rw [← HR.out];simp [l3]
       subst hrv
       go_enter Tryz.func19,Tryz.ntmps19
       go_wp2_with fail
       refine (C1 _).mono ?_
       rintro e w1 ⟨rfl,rfl⟩;have b9:=HX0.out;have y3:=b9.cell 3;have y4:=b9.cell 4;have y5:=b9.cell 5;have y6:=b9.cell 6;simp only [List.getElem?_toArray,List.getElem?_cons_zero,List.getElem?_cons_succ] at y3 y4 y5 y6;clear b9
       go_wp2_with fail
       refine (C4 _).mono ?_
       rintro e w2 ⟨rfl,hb⟩;have HB2:=Lib.hid (HB0.out.trans (hb.mono HB0.out.size));have HX2:=Lib.hid (HX0.out.below hb HX0.out.lt);clear hb y3 y4 y5 y6;have b9:=HX2.out;have y1:=b9.cell 1;have y2:=b9.cell 2;have y7:=b9.cell 7;simp only [List.getElem?_toArray,List.getElem?_cons_zero,List.getElem?_cons_succ] at y1 y2 y7;clear b9
       go_wp2
       go_ret
       exact ⟨rfl,HB2.out⟩
      ·have e0:(kn != 48)=true:=by simpa using k0
       have f0:(kn == 48)=false:=by simpa using k0
       by_cases l4:bl=0
       ·subst l4
        by_cases k3:kn=53
        ·subst k3
         have hrv:r=decide (m.target=[]):=by rw [← HR.out];simp
         subst hrv
         go_enter Tryz.func19,Tryz.ntmps19
         go_wp2_with fail
         refine (C1 _).mono ?_
         rintro e w1 ⟨rfl,rfl⟩;have b9:=HX0.out;have y3:=b9.cell 3;have y4:=b9.cell 4;have y5:=b9.cell 5;have y6:=b9.cell 6;simp only [List.getElem?_toArray,List.getElem?_cons_zero,List.getElem?_cons_succ] at y3 y4 y5 y6;clear b9
         go_wp2_with fail
         refine (C4 _).mono ?_
         rintro e w2 ⟨rfl,hb⟩;have HB2:=Lib.hid (HB0.out.trans (hb.mono HB0.out.size));have HX2:=Lib.hid (HX0.out.below hb HX0.out.lt);clear hb y3 y4 y5 y6;have b9:=HX2.out;have y1:=b9.cell 1;have y2:=b9.cell 2;have y7:=b9.cell 7;simp only [List.getElem?_toArray,List.getElem?_cons_zero,List.getElem?_cons_succ] at y1 y2 y7;clear b9
         go_wp2
         go_ret
         exact ⟨rfl,HB2.out⟩
        ·have f3:(kn == 53)=false:=by simpa using k3
         by_cases k1:kn=49
         ·subst k1
          have hrv:r=b2:=by rw [← HR.out];simp
          subst hrv
          go_enter Tryz.func19,Tryz.ntmps19
          go_wp2_with fail
          refine (C1 _).mono ?_
          rintro e w1 ⟨rfl,rfl⟩;have b9:=HX0.out;have y3:=b9.cell 3;have y4:=b9.cell 4;have y5:=b9.cell 5;have y6:=b9.cell 6;simp only [List.getElem?_toArray,List.getElem?_cons_zero,List.getElem?_cons_succ] at y3 y4 y5 y6;clear b9
          go_wp2_with fail
          refine (C4 _).mono ?_
          rintro e w2 ⟨rfl,hb⟩;have HB2:=Lib.hid (HB0.out.trans (hb.mono HB0.out.size));have HX2:=Lib.hid (HX0.out.below hb HX0.out.lt);clear hb y3 y4 y5 y6;have b9:=HX2.out;have y1:=b9.cell 1;have y2:=b9.cell 2;have y7:=b9.cell 7;simp only [List.getElem?_toArray,List.getElem?_cons_zero,List.getElem?_cons_succ] at y1 y2 y7;clear b9
          go_wp2_with fail
          refine (C2 _).mono ?_
          rintro e w3 ⟨rfl,rfl⟩
          go_wp2
          go_ret
          exact ⟨rfl,HB2.out⟩
         ·have f1:(kn == 49)=false:=by simpa using k1
          by_cases k2:kn=50
          ·subst k2
           have hrv:r=(b3 == 0):=by rw [← HR.out];simp
           subst hrv
           go_enter Tryz.func19,Tryz.ntmps19
           go_wp2_with fail
           refine (C1 _).mono ?_
           rintro e w1 ⟨rfl,rfl⟩;have b9:=HX0.out;have y3:=b9.cell 3;have y4:=b9.cell 4;have y5:=b9.cell 5;have y6:=b9.cell 6;simp only [List.getElem?_toArray,List.getElem?_cons_zero,List.getElem?_cons_succ] at y3 y4 y5 y6;clear b9
           go_wp2_with fail
           refine (C4 _).mono ?_
           rintro e w2 ⟨rfl,hb⟩;have HB2:=Lib.hid (HB0.out.trans (hb.mono HB0.out.size));have HX2:=Lib.hid (HX0.out.below hb HX0.out.lt);clear hb y3 y4 y5 y6;have b9:=HX2.out;have y1:=b9.cell 1;have y2:=b9.cell 2;have y7:=b9.cell 7;simp only [List.getElem?_toArray,List.getElem?_cons_zero,List.getElem?_cons_succ] at y1 y2 y7;clear b9
           go_wp2_with fail
           refine (C3 _).mono ?_
           rintro e w3 ⟨rfl,rfl⟩
           go_wp2
           go_ret
           exact ⟨rfl,HB2.out⟩
          ·have f2:(kn == 50)=false:=by simpa using k2
           have hrv:r=false:=by rw [← HR.out];simp [k0,k1,k2,k3]
           subst hrv
           go_enter Tryz.func19,Tryz.ntmps19
           go_wp2_with fail
           refine (C1 _).mono ?_
           rintro e w1 ⟨rfl,rfl⟩;have b9:=HX0.out;have y3:=b9.cell 3;have y4:=b9.cell 4;have y5:=b9.cell 5;have y6:=b9.cell 6;simp only [List.getElem?_toArray,List.getElem?_cons_zero,List.getElem?_cons_succ] at y3 y4 y5 y6;clear b9
           go_wp2_with fail
           refine (C4 _).mono ?_
           rintro e w2 ⟨rfl,hb⟩;have HB2:=Lib.hid (HB0.out.trans (hb.mono HB0.out.size));have HX2:=Lib.hid (HX0.out.below hb HX0.out.lt);clear hb y3 y4 y5 y6;have b9:=HX2.out;have y1:=b9.cell 1;have y2:=b9.cell 2;have y7:=b9.cell 7;simp only [List.getElem?_toArray,List.getElem?_cons_zero,List.getElem?_cons_succ] at y1 y2 y7;clear b9
           go_wp2
           go_ret
           exact ⟨rfl,HB2.out⟩
       ·have l5:(0:Int) < (bl:Int):=by omega
        have hrv:r=false:=by rw [← HR.out];simp [k0,l4]
        subst hrv
        go_enter Tryz.func19,Tryz.ntmps19
        go_wp2_with fail
        refine (C1 _).mono ?_
        rintro e w1 ⟨rfl,rfl⟩;have b9:=HX0.out;have y3:=b9.cell 3;have y4:=b9.cell 4;have y5:=b9.cell 5;have y6:=b9.cell 6;simp only [List.getElem?_toArray,List.getElem?_cons_zero,List.getElem?_cons_succ] at y3 y4 y5 y6;clear b9
        go_wp2_with fail
        refine (C4 _).mono ?_
        rintro e w2 ⟨rfl,hb⟩;have HB2:=Lib.hid (HB0.out.trans (hb.mono HB0.out.size));have HX2:=Lib.hid (HX0.out.below hb HX0.out.lt);clear hb y3 y4 y5 y6;have b9:=HX2.out;have y1:=b9.cell 1;have y2:=b9.cell 2;have y7:=b9.cell 7;simp only [List.getElem?_toArray,List.getElem?_cons_zero,List.getElem?_cons_succ] at y1 y2 y7;clear b9
        go_wp2
        go_ret
        exact ⟨rfl,HB2.out⟩
end Go.Proofs.YtnpkcneojilmkaaGreatDoor.Mem
end
section
namespace Go.Proofs.YtnpkcneojilmkaaGreatDoor.Mem
open Go.ChangeShapes Go.WideShapes Go.ChangeAt Go.RowKit Base Byt Txt Bk Hp Head Num Path Go.Lib
set_option linter.unusedVariables false
set_option maxRecDepth 100000
set_option maxHeartbeats 4000000 in
theorem memGood_any (m:MemV) (p:Option Addr) (c:Nat) (w:World) (h1:m.path.length≤1000000000000) (h2:m.target.length≤1000000000000) (hT:Tabs w) :
 Calls Tryz.prog 26 #[.agg (memC m p c)] w fun e w' => e=.returned (.bool (goodD m))∧Below w.heap.size w w':=by
 rw [goodD_is];obtain ⟨⟨fm,fe⟩,hfd⟩:∃ x,fromD (headOfM m)=x:=⟨_,rfl⟩;have hfb:fm.body=[]:=by have:=fromD_body (headOfM m);rw [hfd] at this;exact this
 have CF:∀ wi,Below w.heap.size w wi → Calls Tryz.prog 46 #[.agg #[.string (str m.path),.string (str m.target),.int .u8 (m.kind.toNat:Int),.int .i64 m.mode,.int .i64 m.uid,.int .i64 m.gid,.int .i64 m.time,.int .i64 (m.body.length:Int),.bool false]] wi fun e w' => e=.returned (.tuple #[.agg #[.string (str fm.path),.string (str fm.target),.int .u8 (fm.kind.toNat:Int),.int .i64 fm.mode,.int .i64 fm.uid,.int .i64 fm.gid,.int .i64 fm.time,.slice none 0 0],.int .i64 fe])∧Below wi.heap.size wi w':=fun wi hb => by
  have:=fromHead_any (headOfM m) wi h1 h2 (hT.below hb);rw [hfd] at this;unfold memC at this;simp only [hfb,List.length_nil] at this;exact this
 have HCF:=Lib.hid CF;have C1:=known_any m.kind;unfold memC;obtain ⟨kn,hkn⟩:∃ kn:Int,(m.kind.toNat:Int)=kn:=⟨_,rfl⟩;obtain ⟨bl,hbl⟩:∃ bl,m.body.length=bl:=⟨_,rfl⟩;rw [hkn,hbl] at HCF;rw [hkn] at C1;rw [hkn,hbl]
 have e1:((str fm.path).toList == (str m.path).toList)=decide (fm.path=m.path):=by
  rw [str_toList,str_toList]
  by_cases h:fm.path=m.path<;>simp [h]
 have e2:((str fm.target).toList == (str m.target).toList)=decide (fm.target=m.target):=by
  rw [str_toList,str_toList]
  by_cases h:fm.target=m.target<;>simp [h]
 rw [hfd];simp only;obtain ⟨x0,hx0⟩:∃ x,knownD m.kind=x:=⟨_,rfl⟩;obtain ⟨x1,hx1⟩:∃ x,decide (fm.path=m.path)=x:=⟨_,rfl⟩;obtain ⟨x2,hx2⟩:∃ x,decide (fm.target=m.target)=x:=⟨_,rfl⟩;rw [hx0] at C1;rw [hx0,hx1,hx2];rw [hx1] at e1;rw [hx2] at e2;have HB:=Lib.hid ((Below.refl w.heap.size w).alloc (Nat.le_refl _) (.cells #[.string (str m.path),.string (str m.target),.int .u8 kn,.int .i64 m.mode,.int .i64 m.uid,.int .i64 m.gid,.int .i64 m.time,.slice p bl c] 26));have HX:=Lib.hid (Blk.new w 26 #[.string (str m.path),.string (str m.target),.int .u8 kn,.int .i64 m.mode,.int .i64 m.uid,.int .i64 m.gid,.int .i64 m.time,.slice p bl c])
 clear hx0 hx1 hx2 hkn hbl hfd hfb CF h1 h2 hT
 cases x0 with
 | false =>
   go_enter Tryz.func26,Tryz.ntmps26
   go_wp2_with fail
   refine (C1 _).mono ?_
   rintro e w1 ⟨rfl,rfl⟩
   go_wp2
   go_ret
   exact ⟨rfl,HB.out⟩
 | true =>
   have hb3:∀ (wi:World),Below (w.alloc (.cells #[.string (str m.path),.string (str m.target),.int .u8 kn,.int .i64 m.mode,.int .i64 m.uid,.int .i64 m.gid,.int .i64 m.time,.slice p bl c] 26)).heap.size (w.alloc (.cells #[.string (str m.path),.string (str m.target),.int .u8 kn,.int .i64 m.mode,.int .i64 m.uid,.int .i64 m.gid,.int .i64 m.time,.slice p bl c] 26)) wi → Below w.heap.size w (wi.alloc (.cells #[.string (str fm.path),.string (str fm.target),.int .u8 (fm.kind.toNat:Int),.int .i64 fm.mode,.int .i64 fm.uid,.int .i64 fm.gid,.int .i64 fm.time,.slice none 0 0] 26))  :=fun wi hb =>
    (HB.out.trans (hb.mono HB.out.size)).alloc (HB.out.trans (hb.mono HB.out.size)).size _
   have HB3:=Lib.hid hb3;clear hb3
   by_cases h0:fe=0
   ·subst h0
    go_enter Tryz.func26,Tryz.ntmps26
    go_wp2_with fail
    refine (C1 _).mono ?_
    rintro e w1 ⟨rfl,rfl⟩
    go_wp2_with fail
    refine (HCF.out _ HB.out).mono ?_
    rintro e w2 ⟨rfl,hb⟩;have F:=Lib.hid (HB3.out _ hb);have b9:=HX.out.below (hb.alloc hb.size (.cells #[.string (str fm.path),.string (str fm.target),.int .u8 (fm.kind.toNat:Int),.int .i64 fm.mode,.int .i64 fm.uid,.int .i64 fm.gid,.int .i64 fm.time,.slice none 0 0] 26)) HX.out.lt;have y0:=b9.cell 0;have y1:=b9.cell 1;simp only [List.getElem?_toArray,List.getElem?_cons_zero,List.getElem?_cons_succ] at y0 y1;clear hb b9
    cases x1 with
    | false =>
      go_wp2
      go_ret
      exact ⟨rfl,F.out⟩
    | true =>
      go_wp2
      go_ret
      exact ⟨rfl,F.out⟩
   ·have hne:(fe == 0)=false:=by simpa using h0
    have hd:decide (fe=0)=false:=by simpa using h0
    rw [hd]
    go_enter Tryz.func26,Tryz.ntmps26
    go_wp2_with fail
    refine (C1 _).mono ?_
    rintro e w1 ⟨rfl,rfl⟩
    go_wp2_with fail
    refine (HCF.out _ HB.out).mono ?_
    rintro e w2 ⟨rfl,hb⟩;have F:=Lib.hid (HB3.out _ hb);clear hb
    go_wp2
    go_ret
    exact ⟨rfl,F.out⟩
end Go.Proofs.YtnpkcneojilmkaaGreatDoor.Mem
end
section
namespace Go.Proofs.YtnpkcneojilmkaaGreatDoor.Wr
open Go.ChangeShapes Go.WideShapes Go.ChangeAt Go.RowKit Base Byt Txt Bk Hp Head Rec Attr Mem Block Go.Lib
set_option linter.unusedVariables false
set_option maxRecDepth 100000
theorem snk_made (w:World) (B:Nat):Snk (w.alloc (.cells #[.slice none 0 0] 82)) w.heap.size B (.slice none 0 0) []:=
 ⟨Blk.new w _ _,World.ownsRow_nil _ _ _ _⟩
theorem putB_nil {g k:Nat} (h:putB g (.slice none 0 0) k):k=g:=by
 rcases h with h | h
 ·exact h
 ·cases h
def BytesPost (w:World) (bs:List UInt8) (e:Ending) (w':World):Prop:=∃ v,e=.returned (.tuple #[v,.int .i64 0])∧OwnB w' w.heap.size v bs.length bs∧Below w.heap.size w w'
def NonePost (w:World) (n:Int) (e:Ending) (w':World):Prop:=e=.returned (.tuple #[.slice none 0 0,.int .i64 n])∧Below w.heap.size w w'
theorem putM_le {m:MemV} (h:GoodM m):(putM m).length≤3000000:=by
 have hb:=(blocks_ge m.body.length).2;have hl:=(blocks_ge (linesD (recsM m)).length).2;have hq:=linesM_le h;have hq2:=h.body;obtain ⟨H,_,h2,_,(⟨_,e⟩ | ⟨X,_,x2,_,e⟩)⟩:=put_laid h
 ·rw [e,List.length_append,padB_length,h2];omega
 ·rw [e,List.length_append,List.length_append,List.length_append,padB_length,padB_length,h2,x2];omega
set_option maxHeartbeats 1000000 in
theorem wput_no (m:MemV) (p:Option Addr) (c:Nat) (w:World) (h1:m.path.length≤1000000000000) (h2:m.target.length≤1000000000000) (hg:goodD m=false) (hN:Need w) :
 Calls Tryz.prog 43 #[.agg (memC m p c)] w (NonePost w 1):=by
 obtain ⟨W0,hW0⟩:∃ W0,w.alloc (.cells (memC m p c) 26)=W0:=⟨_,rfl⟩;have hB0:Below w.heap.size w W0:=by rw [← hW0];exact (Below.refl _ _).alloc (Nat.le_refl _) _
 have hG:=memGood_any m p c W0 h1 h2 (hN.below hB0).tabs;rw [hg] at hG;have HB0:=Lib.hid hB0;have HW0:=Lib.hid hW0;have HG:=Lib.hid hG;unfold memC at HW0 HG ⊢;clear hB0 hW0 hG hg
 go_enter Tryz.func43,Tryz.ntmps43
 go_wp2_with fail
 rw [HW0.out];refine HG.out.mono ?_
 rintro e w1 ⟨rfl,hb1⟩;have FIN:=Lib.hid (HB0.out.trans (hb1.mono HB0.out.size));clear hb1
 go_wp2
 go_ret2
 exact ⟨rfl,FIN.out⟩
set_option maxHeartbeats 2000000 in
theorem wput_yes (m:MemV) (p:Option Addr) (c:Nat) (w:World) (hg:goodD m=true) (hb:BAt w p m.body.length m.body) (hN:Need w) :
 Calls Tryz.prog 43 #[.agg (memC m p c)] w (BytesPost w (putM m)):=by
 have hgm:=good_facts hg;have hpl:=hgm.pathL;have htl:=hgm.targL;obtain ⟨W0,hW0⟩:∃ W0,w.alloc (.cells (memC m p c) 26)=W0:=⟨_,rfl⟩;have hB0:Below w.heap.size w W0:=by rw [← hW0];exact (Below.refl _ _).alloc (Nat.le_refl _) _
 have hM0:Blk W0 w.heap.size 26 (memC m p c):=by rw [← hW0];exact Blk.new w _ _
 have hG:=memGood_any m p c W0 (by omega) (by omega) (hN.below hB0).tabs
 rw [hg] at hG;obtain ⟨bl,hbl⟩:∃ bl,m.body.length=bl:=⟨_,rfl⟩;have HB0:=Lib.hid hB0;have HW0:=Lib.hid hW0;have HG:=Lib.hid hG;have HM0:=Lib.hid hM0;have HGM:=Lib.hid hgm;have HN:=Lib.hid hN;have HBT:=Lib.hid hb;have HBL:=Lib.hid hbl;unfold memC at HW0 HG ⊢;rw [hbl] at HW0 HG ⊢;clear hB0 hW0 hG hg hM0 hgm hN hb hpl htl hbl
 go_enter Tryz.func43,Tryz.ntmps43
 go_wp2_with fail
 rw [HW0.out];refine HG.out.mono ?_
 rintro e w1 ⟨rfl,hb1⟩;have HB1:=Lib.hid (HB0.out.trans (hb1.mono HB0.out.size));have HM1:=Lib.hid (HM0.out.below hb1 HM0.out.lt);clear hb1;obtain ⟨w2,hw2⟩:∃ w2,w1.alloc (.cells #[.slice none 0 0] 82)=w2:=⟨_,rfl⟩;have hs2:Snk w2 w1.heap.size w.heap.size (.slice none 0 0) []:=by rw [← hw2];exact snk_made w1 _
 have hb12:Below w1.heap.size w1 w2:=by rw [← hw2];exact (Below.refl _ _).alloc (Nat.le_refl _) _
 have HS2:=Lib.hid hs2;have HB2:=Lib.hid (HB1.out.trans (hb12.mono HB1.out.size));have hm2:=HM1.out.below hb12 HM1.out.lt;have HW2:=Lib.hid hw2;have hL:=lay_any w2 w1.heap.size w.heap.size (.slice none 0 0) [] HS2.out HB2.out.size m p c HGM.out (HBT.out.below HB2.out) (fun _ _ _ e => by cases e) (by simp) (HN.out.below HB2.out)
 unfold memC at hL hm2;rw [HBL.out] at hL hm2;have y0:=hm2.cell 0;have y1:=hm2.cell 1;have y2:=hm2.cell 2;have y3:=hm2.cell 3;have y4:=hm2.cell 4;have y5:=hm2.cell 5;have y6:=hm2.cell 6;have y7:=hm2.cell 7;simp only [List.getElem?_toArray,List.getElem?_cons_zero,List.getElem?_cons_succ] at y0 y1 y2 y3 y4 y5 y6 y7;have HLY:=Lib.hid hL;clear hs2 hb12 hw2 hL hm2
 go_upto_region 4 with fail
 rw [HW2.out]
 go_wp2_with fail
 refine HLY.out.mono ?_
 rintro e w3 ⟨v3,rfl,hs3,hk3,_⟩;rw [List.nil_append] at hs3;have HB3:Hid (Below w.heap.size w w3):=Lib.hid (HB2.out.trans (hk3.below HB2.out.size (fun k hk => by rw [putB_nil hk];exact HB1.out.size)))
 have HO:=Lib.hid (out_any w3 w1.heap.size w.heap.size v3 (putM m) hs3 (by have:=putM_le HGM.out;omega))
 clear hs3 hk3 y0 y1 y2 y3 y4 y5 y6 y7
 go_wp2_with fail
 refine HO.out.mono ?_
 rintro e w4 ⟨v4,rfl,ho4,hk4⟩;have FIN:Hid (OwnB w4 w.heap.size v4 (putM m).length (putM m)∧Below w.heap.size w w4):=Lib.hid ⟨ho4.mono HB3.out.size,HB3.out.trans (hk4.below HB3.out.size (fun _ h => h.elim))⟩
 clear ho4 hk4
 go_wp2
 go_ret2
 exact ⟨v4,rfl,FIN.out⟩
end Go.Proofs.YtnpkcneojilmkaaGreatDoor.Wr
end
section
namespace Go.Proofs.YtnpkcneojilmkaaGreatDoor.Mem
open Go.ChangeShapes Go.WideShapes Go.ChangeAt Go.RowKit Go.Shelf Base Byt Txt Bk Hp Head Go.Proofs.YtnpkcneojilmkaaGreatDoor.Mp Block Go.Lib
set_option linter.unusedVariables false
set_option maxRecDepth 100000
structure put24G where
 v1:Value
 vp:Value
 v2:Value
structure W24 (w:World) (B bm:Nat) (M:Array Value) (v0:Value) (X Y P:List UInt8) (w1:World) (γ:put24G) (listed:Array Bool) (w':World):Prop where
 bel:Below w.heap.size w w'
 le:w1.heap.size≤w'.heap.size
 mem:Blk w' bm 26 M
 ysrc:listed.getD 2 false=false → ∀ b o,BAt w1 (some ⟨b,o,none⟩) 512 Y → (∀ k,v0.ownBlock=some k → k≠b) → BAt w' (some ⟨b,o,none⟩) 512 Y
 o0:listed.getD 2 false=false → OwnB w' B v0 X.length X
 o1:listed.getD 2 false=true → listed.getD 6 false=false → OwnB w' B γ.v1 (X++Y).length (X++Y)
 pd:listed.getD 5 false=true → listed.getD 6 false=false → OwnB w' w1.heap.size γ.vp P.length P
 fin:listed.getD 6 false=true → OwnB w' B γ.v2 ((X++Y)++P).length ((X++Y)++P)
 c6:listed.getD 6 false=true → listed.getD 2 false=true∧listed.getD 5 false=true
theorem W24.keep {w w1 w':World} {B bm:Nat} {M:Array Value} {v0:Value} {X Y P:List UInt8} {γ:put24G} {listed:Array Bool} (hW:W24 w B bm M v0 X Y P w1 γ listed w') {j:Nat} (hlt:j < listed.size) (hj:j≠2∧j≠5∧j≠6):W24 w B bm M v0 X Y P w1 γ (listed.setIfInBounds j true) w':=by
 have e2:(listed.setIfInBounds j true).getD 2 false=listed.getD 2 false:=by rw [listed_get hlt,if_neg (by omega)]
 have e5:(listed.setIfInBounds j true).getD 5 false=listed.getD 5 false:=by rw [listed_get hlt,if_neg (by omega)]
 have e6:(listed.setIfInBounds j true).getD 6 false=listed.getD 6 false:=by rw [listed_get hlt,if_neg (by omega)]
 exact ⟨hW.bel,hW.le,hW.mem,by rw [e2];exact hW.ysrc,by rw [e2];exact hW.o0,by rw [e2,e6];exact hW.o1,by rw [e5,e6];exact hW.pd,by rw [e6];exact hW.fin,by rw [e2,e5,e6];exact hW.c6⟩
end Go.Proofs.YtnpkcneojilmkaaGreatDoor.Mem
end
section
namespace Go.Proofs.YtnpkcneojilmkaaGreatDoor.Mem
open Go.ChangeShapes Go.WideShapes Go.ChangeAt Go.RowKit Base Byt Txt Bk Hp Head Num Path Block Rec Attr Go.Proofs.YtnpkcneojilmkaaGreatDoor.Mp Go.Lib
set_option linter.unusedVariables false
set_option maxRecDepth 100000
structure PM (w:World) (M:Array Value) (wx:World) (h:HeadV):Prop where
 bel:Below w.heap.size w wx
 mem:Blk wx w.heap.size 26 M
 hd:Blk wx (w.heap.size+1) 41 (headC h)
theorem PM.below {w:World} {M:Array Value} {wx wy:World} {h:HeadV} (hm:PM w M wx h) (hb:Below wx.heap.size wx wy):PM w M wy h:=
 ⟨hm.bel.trans (hb.mono hm.bel.size),hm.mem.below hb hm.mem.lt,hm.hd.below hb hm.hd.lt⟩
theorem PM.kept {w:World} {M:Array Value} {wx wy:World} {h:HeadV} (hm:PM w M wx h) (hk:Kept noneB wx wy):PM w M wy h:=hm.below (hk.below (Nat.le_refl _) (fun _ h => h.elim))
end Go.Proofs.YtnpkcneojilmkaaGreatDoor.Mem
end
section
namespace Go.Proofs.YtnpkcneojilmkaaGreatDoor.Mem
open Go.ChangeShapes Go.WideShapes Go.ChangeAt Go.RowKit Base Byt Txt Bk Hp Head Num Path Block Rec Go.Lib
set_option linter.unusedVariables false
set_option maxRecDepth 100000
theorem putM_len {m:MemV} (h:GoodM m):(putM m).length≤3000000:=by
 have hb:=(blocks_ge m.body.length).2;have hl:=(blocks_ge (linesD (recsM m)).length).2;have hq:=linesM_le h;have hq2:=h.body;obtain ⟨H,_,h2,_,(⟨_,e⟩ | ⟨X,_,x2,_,e⟩)⟩:=put_laid h
 ·rw [e,List.length_append,padB_length,h2];omega
 ·rw [e,List.length_append,List.length_append,List.length_append,padB_length,padB_length,h2,x2];omega
theorem putAllM_len:∀ (ms:List MemV),(∀ m ∈ ms,GoodM m) → (putAllM ms).length≤ms.length * 3000000
 | [],_ => Nat.zero_le _
 | m :: ms,h => by
   rw [putAllM_cons,List.length_append,List.length_cons];have h1:=putM_len (h m (List.mem_cons_self ..));have h2:=putAllM_len ms (fun x hx => h x (List.mem_cons_of_mem _ hx))
   omega
theorem takeP_succ (xs:List MP) (k:Nat) (h:k < xs.length):(xs.take (k+1)).map MP.m=(xs.take k).map MP.m++[(xs.getD k zeroP).m]:=by
 rw [List.take_succ_eq_append_getElem h,List.map_append,List.getD,List.getElem?_eq_getElem h];rfl
theorem getP_mem (xs:List MP) (k:Nat) (h:k < xs.length):xs.getD k zeroP ∈ xs:=by
 rw [List.getD,List.getElem?_eq_getElem h];exact List.getElem_mem h
end Go.Proofs.YtnpkcneojilmkaaGreatDoor.Mem
end
section
namespace Go.Proofs.YtnpkcneojilmkaaGreatDoor.Wr
open Go.ChangeShapes Go.WideShapes Go.ChangeAt Go.RowKit Base Byt Txt Bk Hp Head Rec Attr Mem Block Go.Lib
set_option linter.unusedVariables false
set_option maxRecDepth 100000
def Fit (xs:List MP):Prop:=∀ x ∈ xs,x.m.path.length≤1000000000000∧x.m.target.length≤1000000000000
def allG (xs:List MP):Bool:=xs.all fun x => goodD x.m
theorem allG_iff {xs:List MP}:allG xs=true ↔ ∀ x ∈ xs,goodD x.m=true:=by simp [allG]
theorem takeMP_succ (xs:List MP) (k:Nat) (h:k < xs.length):xs.take (k+1)=xs.take k++[xs.getD k zeroP]:=by
 rw [List.take_succ_eq_append_getElem h,List.getD,List.getElem?_eq_getElem h];rfl
set_option maxHeartbeats 1000000 in
theorem notGood_any (m:MemV) (p:Option Addr) (c:Nat) (w:World) (h1:m.path.length≤1000000000000) (h2:m.target.length≤1000000000000) (hN:Need w) :
 Calls Tryz.prog 39 #[.agg (memC m p c)] w fun e w' => e=.returned (.bool (!goodD m))∧Below w.heap.size w w':=by
 obtain ⟨W0,hW0⟩:∃ W0,w.alloc (.cells (memC m p c) 26)=W0:=⟨_,rfl⟩;have hB0:Below w.heap.size w W0:=by rw [← hW0];exact (Below.refl _ _).alloc (Nat.le_refl _) _
 have hG:=memGood_any m p c W0 h1 h2 (hN.below hB0).tabs;obtain ⟨r,hr⟩:∃ r,goodD m=r:=⟨_,rfl⟩;rw [hr] at hG ⊢;have HB0:=Lib.hid hB0;have HW0:=Lib.hid hW0;have HG:=Lib.hid hG;unfold memC at HW0 HG ⊢;clear hB0 hW0 hG hr
 go_enter Tryz.func39,Tryz.ntmps39
 go_wp2_with fail
 rw [HW0.out];refine HG.out.mono ?_
 rintro e w1 ⟨rfl,hb1⟩;have FIN:=Lib.hid (HB0.out.trans (hb1.mono HB0.out.size));clear hb1
 go_wp2
 go_ret
 exact ⟨rfl,FIN.out⟩
def IdxPost (xs:List MP) (w:World) (e:Ending) (w':World):Prop:=∃ k:Int,e=.returned (.int .i64 k)∧decide (0≤k)=!allG xs∧Below w.heap.size w w'
set_option maxHeartbeats 2000000 in
theorem index_any (p:Option Addr) (n c:Nat) (xs:List MP) (w:World) (h:MemsAt w p n xs) (hn:n≤100000) (hF:Fit xs) (hN:Need w) :
 Calls Tryz.prog 57 #[.slice p n c,.func (.func 39) #[] #[]] w (IdxPost xs w):=by
 have HM:=Lib.hid h;have HL:=Lib.hid h.1;have HF:=Lib.hid hF;have HN:=Lib.hid hN;clear h hF hN
 go_enter Tryz.func57,Tryz.ntmps57
 go_wp2_with fail
 go_loopw [5,8] (fun _ i wr => ∃ (j:Nat),j≤n∧i=.int .i64 (j:Int)∧Hid (∀ x ∈ xs.take j,goodD x.m=true)∧Hid (Below w.heap.size w wr)) (fun _ i _ => n - (RowKit.intOf i).toNat)
 case atStart => exact ⟨0,Nat.zero_le _,rfl,Lib.hid (by simp),Lib.hid (Below.refl _ _)⟩
 case round =>
  obtain ⟨j,hj,rfl,hA,hB⟩:=hrel
  by_cases hlt:j < n
  ·have hlx:j < xs.length:=by rw [HL.out];exact hlt
   have hmem:=getP_mem xs j hlx;have hT:=takeMP_succ xs j hlx;have hfit:=HF.out _ hmem;obtain ⟨b,o,rfl,hb,hBd,c0,c1,c2,c3,c4,c5,c6,c7⟩:=(HM.out.below hB.out).cells hlt;obtain ⟨y,hy⟩:∃ y,xs.getD j zeroP=y:=⟨_,rfl⟩;rw [hy] at hT hmem hfit hBd c0 c1 c2 c3 c4 c5 c6 c7;rw [Nat.mul_comm] at c0 c1 c2 c3 c4 c5 c6 c7;have hG:=notGood_any y.m y.p y.c wr hfit.1 hfit.2 (HN.out.below hB.out);unfold memC at hG;obtain ⟨r,hr⟩:∃ r,goodD y.m=r:=⟨_,rfl⟩;rw [hr] at hG;have HT:=Lib.hid hT;have HR:=Lib.hid hr;have HMM:=Lib.hid hmem;have HG:=Lib.hid hG;have hltz:(j:Int) < (n:Int):=by omega
   clear hT hb hy hG hr hmem hlx hfit hBd
   cases r with
   | true =>
     go_wp2_with fail
     refine HG.out.mono ?_
     rintro e w2 ⟨rfl,hb2⟩;have HB2:=Lib.hid (hB.out.trans (hb2.mono hB.out.size));clear hb2 c0 c1 c2 c3 c4 c5 c6 c7
     go_wp2
     go_roundw
     case rel => exact ⟨j+1,by omega,by go_num,Lib.hid (fun x hx => by
      rw [HT.out,List.mem_append] at hx;rcases hx with hx | hx
      ·exact hA.out x hx
      ·rw [List.mem_singleton.1 hx];exact HR.out),HB2⟩
     case measure => simp [RowKit.intOf];omega
   | false =>
     go_wp2_with fail
     refine HG.out.mono ?_
     rintro e w2 ⟨rfl,hb2⟩;have HB2:=Lib.hid (hB.out.trans (hb2.mono hB.out.size))
     have E:Hid (allG xs=false):=Lib.hid (by
      rw [Bool.eq_false_iff];intro h;have:=allG_iff.1 h _ HMM.out;rw [HR.out] at this
      cases this)
     clear hb2 c0 c1 c2 c3 c4 c5 c6 c7
     go_wp2
     go_ret
     exact ⟨(j:Int),rfl,by rw [E.out];simp,HB2.out⟩
  ·have hks:¬ ((j:Int) < (n:Int)):=by omega
   have E:Hid (allG xs=true):=Lib.hid (allG_iff.2 (fun x hx => hA.out x (by rw [List.take_of_length_le (by rw [HL.out];omega)];exact hx)))
   go_wp2
   go_ret
   exact ⟨-1,rfl,by rw [E.out];decide,hB.out⟩
set_option maxHeartbeats 1000000 in
theorem contains_any (p:Option Addr) (n c:Nat) (xs:List MP) (w:World) (h:MemsAt w p n xs) (hn:n≤100000) (hF:Fit xs) (hN:Need w) :
 Calls Tryz.prog 38 #[.slice p n c,.func (.func 39) #[] #[]] w fun e w' => e=.returned (.bool (!allG xs))∧Below w.heap.size w w':=by
 have HI:=Lib.hid (index_any p n c xs w h hn hF hN);clear h hF hN
 go_enter Tryz.func38,Tryz.ntmps38
 go_wp2_with fail
 refine HI.out.mono ?_
 rintro e w1 ⟨k,rfl,hk,hb⟩;have HB:=Lib.hid hb;clear hb
 go_wp2
 go_ret
 exact ⟨by first | rw [hk] | rfl,HB.out⟩
end Go.Proofs.YtnpkcneojilmkaaGreatDoor.Wr
end
section
namespace Go.Proofs.YtnpkcneojilmkaaGreatDoor.Wr
open Go.ChangeShapes Go.WideShapes Go.ChangeAt Go.RowKit Base Byt Txt Bk Hp Head Rec Attr Mem Block Go.Lib
set_option linter.unusedVariables false
set_option maxRecDepth 100000
theorem warch_bad (p:Option Addr) (n c:Nat) (xs:List MP) (w:World) (h:MemsAt w p n xs) (hn:n≤100000) (hF:Fit xs) (hA:allG xs=false) (hN:Need w) :
 Calls Tryz.prog 20 #[.slice p n c] w (NonePost w 1):=by
 have hC:=contains_any p n c xs w h hn hF hN;rw [hA] at hC;have HC:=Lib.hid hC;clear h hF hN hA hC
 go_enter Tryz.func20,Tryz.ntmps20
 go_wp2_with fail
 refine HC.out.mono ?_
 rintro e w1 ⟨rfl,hb⟩;have HB:=Lib.hid hb;clear hb
 go_wp2
 go_ret2
 exact ⟨rfl,HB.out⟩
theorem warch_many (p:Option Addr) (n c:Nat) (xs:List MP) (w:World) (h:MemsAt w p n xs) (hn:n≤100000) (hF:Fit xs) (hA:allG xs=true) (hM:4096 < n) (hN:Need w) :
 Calls Tryz.prog 20 #[.slice p n c] w (NonePost w 10):=by
 have hC:=contains_any p n c xs w h hn hF hN;rw [hA] at hC;have HC:=Lib.hid hC;have hm:(4096:Int) < (n:Int):=by omega
 clear h hF hN hA hC
 go_enter Tryz.func20,Tryz.ntmps20
 go_wp2_with fail
 refine HC.out.mono ?_
 rintro e w1 ⟨rfl,hb⟩;have HB:=Lib.hid hb;clear hb
 go_wp2
 go_ret2
 exact ⟨rfl,HB.out⟩
structure ArchI (w:World) (g:Nat) (xs:List MP) (j:Nat) (wr:World):Prop where
 snk:∃ v,Snk wr g w.heap.size v (putAllM ((xs.take j).map MP.m))
 bel:Below w.heap.size w wr
theorem ArchI.below {w wr w':World} {g j:Nat} {xs:List MP} (h:ArchI w g xs j wr) (hb:Below wr.heap.size wr w'):ArchI w g xs j w':=by
 obtain ⟨v,hv⟩:=h.snk;exact ⟨⟨v,hv.kept (Kept.of_below hb noneB) id (fun _ _ => id)⟩,h.bel.trans (hb.mono h.bel.size)⟩
set_option maxHeartbeats 4000000 in
theorem warch_yes (p:Option Addr) (n c:Nat) (xs:List MP) (w:World) (h:MemsAt w p n xs) (hn:n≤4096) (hA:∀ x ∈ xs,goodD x.m=true) (hN:Need w) :
 Calls Tryz.prog 20 #[.slice p n c] w (BytesPost w (archD (xs.map MP.m))):=by
 have hgm:∀ x ∈ xs,GoodM x.m:=fun x hx => good_facts (hA x hx)
 have hC:=contains_any p n c xs w h (by omega) (fun x hx => ⟨by have:=(hgm x hx).pathL;omega,by have:=(hgm x hx).targL;omega⟩) hN
 rw [allG_iff.2 hA] at hC
 have hlen:∀ j,(putAllM ((xs.take j).map MP.m)).length≤12288000000:=fun j => by
  have:=putAllM_len ((xs.take j).map MP.m) (fun m hm => by
   obtain ⟨x,hx,rfl⟩:=List.mem_map.1 hm
   exact hgm x (List.mem_of_mem_take hx))
  rw [List.length_map,List.length_take] at this;have h1:=h.1;omega
 have hm:¬ (4096:Int) < (n:Int):=by omega
 have HC:=Lib.hid hC;have HM:=Lib.hid h;have HL:=Lib.hid h.1;have HGM:=Lib.hid hgm;have HLEN:=Lib.hid hlen;have HN:=Lib.hid hN;clear h hA hN hC hgm hlen
 go_enter Tryz.func20,Tryz.ntmps20
 go_wp2_with fail
 refine HC.out.mono ?_
 rintro e w1 ⟨rfl,hb1⟩;have HB1:=Lib.hid hb1;clear hb1
 go_wp2_with fail
 obtain ⟨w2,hw2⟩:∃ w2,w1.alloc (.cells #[.slice none 0 0] 82)=w2:=⟨_,rfl⟩;have hs2:Snk w2 w1.heap.size w.heap.size (.slice none 0 0) []:=by rw [← hw2];exact snk_made w1 _
 have hb12:Below w1.heap.size w1 w2:=by rw [← hw2];exact (Below.refl _ _).alloc (Nat.le_refl _) _
 have HI0:Hid (ArchI w w1.heap.size xs 0 w2):=Lib.hid ⟨⟨_,by simpa [putAllM] using hs2⟩,HB1.out.trans (hb12.mono HB1.out.size)⟩
 have HZ1:Hid (w.heap.size≤w1.heap.size):=Lib.hid HB1.out.size;obtain ⟨g,hg⟩:∃ g,w1.heap.size=g:=⟨_,rfl⟩;rw [hg] at HI0 HZ1 ⊢;rw [hw2];clear hs2 hb12 hw2 hg
 go_loopw [6,15] (fun _ i wr => ∃ (j:Nat),j≤n∧i=.int .i64 (j:Int)∧Hid (ArchI w g xs j wr)) (fun _ i _ => n - (RowKit.intOf i).toNat)
 case atStart => exact ⟨0,Nat.zero_le _,rfl,HI0⟩
 case round =>
  obtain ⟨j,hj,rfl,hI⟩:=hrel
  by_cases hlt:j < n
  ·have hlx:j < xs.length:=by rw [HL.out];exact hlt
   have hGy:=HGM.out _ (getP_mem xs j hlx);have hT:=takeP_succ xs j hlx;obtain ⟨b,o,rfl,hb,hBd,c0,c1,c2,c3,c4,c5,c6,c7⟩:=(HM.out.below hI.out.bel).cells hlt
   have hbat:∀ x,0 < (xs.getD j zeroP).m.body.length → (xs.getD j zeroP).p=some x → x.block < w.heap.size:=fun x h0 hx => by
    obtain ⟨b',o',he,hbw,_⟩:=(HM.out.cells hlt).choose_spec.choose_spec.2.2.1.bat.cell h0;rw [hx] at he
    cases he
    exact hbw
   obtain ⟨y,hy⟩:∃ y,xs.getD j zeroP=y:=⟨_,rfl⟩;rw [hy] at hT hGy hBd c0 c1 c2 c3 c4 c5 c6 c7 hbat;rw [Nat.mul_comm] at c0 c1 c2 c3 c4 c5 c6 c7;obtain ⟨W,hW⟩:∃ W,wr.alloc (.cells #[.string (str y.m.path),.string (str y.m.target),.int .u8 (y.m.kind.toNat:Int),.int .i64 y.m.mode,.int .i64 y.m.uid,.int .i64 y.m.gid,.int .i64 y.m.time,.slice y.p y.m.body.length y.c] 26)=W:=⟨_,rfl⟩;have hbW:Below wr.heap.size wr W:=by rw [← hW];exact (Below.refl _ _).alloc (Nat.le_refl _) _
   have hIW:=hI.out.below hbW;obtain ⟨v,hv⟩:=hIW.snk
   have hLY:=lay_any W g w.heap.size v _ hv hIW.bel.size y.m y.p y.c hGy (hBd.bat.below hbW) (fun h0 x hx e => by
    have h1:=hbat x h0 hx;have h2:=(hv.own.lt _ e).1
    omega) (by have:=HLEN.out j;omega) (HN.out.below hIW.bel)
   unfold memC at hLY;have HLY:=Lib.hid hLY;have HT:=Lib.hid hT;have HW:=Lib.hid hW;have HIW:=Lib.hid hIW;have HV:=Lib.hid hv;have hltz:(j:Int) < (n:Int):=by omega
   clear hT hb hy hLY hlx hW hbW hIW hv hbat hBd hGy
   go_upto_region 9 with fail
   rw [HW.out];have m0:W.cell? ⟨wr.heap.size,0,none⟩=some (.string (str y.m.path)):=by rw [← HW.out];exact (Blk.new wr _ _).cell 0
   have m1:W.cell? ⟨wr.heap.size,1,none⟩=some (.string (str y.m.target)):=by rw [← HW.out];exact (Blk.new wr _ _).cell 1
   have m2:W.cell? ⟨wr.heap.size,2,none⟩=some (.int .u8 (y.m.kind.toNat:Int)):=by rw [← HW.out];exact (Blk.new wr _ _).cell 2
   have m3:W.cell? ⟨wr.heap.size,3,none⟩=some (.int .i64 y.m.mode):=by rw [← HW.out];exact (Blk.new wr _ _).cell 3
   have m4:W.cell? ⟨wr.heap.size,4,none⟩=some (.int .i64 y.m.uid):=by rw [← HW.out];exact (Blk.new wr _ _).cell 4
   have m5:W.cell? ⟨wr.heap.size,5,none⟩=some (.int .i64 y.m.gid):=by rw [← HW.out];exact (Blk.new wr _ _).cell 5
   have m6:W.cell? ⟨wr.heap.size,6,none⟩=some (.int .i64 y.m.time):=by rw [← HW.out];exact (Blk.new wr _ _).cell 6
   have m7:W.cell? ⟨wr.heap.size,7,none⟩=some (.slice y.p y.m.body.length y.c):=by rw [← HW.out];exact (Blk.new wr _ _).cell 7
   go_wp2_with fail
   refine HLY.out.mono ?_
   rintro e w3 ⟨v3,rfl,hs3,hk3,hn3⟩
   have HI3:Hid (ArchI w g xs (j+1) w3):=Lib.hid ⟨⟨v3,by
    have e:putAllM ((xs.take (j+1)).map MP.m)=putAllM ((xs.take j).map MP.m)++putM y.m:=by
     rw [HT.out,putAllM_app,putAllM_cons];simp [putAllM]
    rw [e]
    exact hs3⟩,HIW.out.bel.trans (hk3.below HIW.out.bel.size (fun k hk => by
     rcases hk with hk | hk
     ·rw [hk];exact HZ1.out
     ·exact (HV.out.own.lt _ hk).1))⟩
   clear hs3 hk3 hn3 m0 m1 m2 m3 m4 m5 m6 m7 c0 c1 c2 c3 c4 c5 c6 c7
   go_wp2
   go_roundw
   case rel => exact ⟨j+1,by omega,by go_num,HI3⟩
   case measure => simp [RowKit.intOf];omega
  ·have hks:¬ ((j:Int) < (n:Int)):=by omega
   have e:xs.take j=xs:=List.take_of_length_le (by rw [HL.out];omega)
   obtain ⟨v,hv⟩:=hI.out.snk;have hl:=HLEN.out j;rw [e] at hv hl;have HE:=Lib.hid (end_any wr g w.heap.size v _ hv hI.out.bel.size (by omega))
   have HV:=Lib.hid hv;have HLL:=Lib.hid hl;clear hv hl e
   go_wp2_with fail
   refine HE.out.mono ?_
   rintro e w4 ⟨v4,rfl,hs4,hk4,_⟩;rw [← archD_eq] at hs4
   have HB4:Hid (Below w.heap.size w w4):=Lib.hid (hI.out.bel.trans (hk4.below hI.out.bel.size (fun k hk => by
    rcases hk with hk | hk
    ·rw [hk];exact HZ1.out
    ·exact (HV.out.own.lt _ hk).1)))
   have HO:=Lib.hid (out_any w4 g w.heap.size v4 _ hs4 (by rw [archD_eq,List.length_append,List.length_replicate];have:=HLL.out;omega))
   clear hs4 hk4
   go_wp2_with fail
   refine HO.out.mono ?_
   rintro e w5 ⟨v5,rfl,ho5,hk5⟩;have FIN:Hid (OwnB w5 w.heap.size v5 (archD (xs.map MP.m)).length (archD (xs.map MP.m))∧Below w.heap.size w w5):=Lib.hid ⟨ho5.mono HB4.out.size,HB4.out.trans (hk5.below HB4.out.size (fun _ h => h.elim))⟩
   clear ho5 hk5
   go_wp2
   go_ret2
   exact ⟨v5,rfl,FIN.out⟩
theorem sizeM_take (xs:List MP) (K:Nat) (hK:∀ m,GoodM m → (putM m).length≤K) (j:Nat):sizeM ((xs.take j).map MP.m)≤j * K:=by
 induction j with
 | zero => simp [sizeM]
 | succ j ih =>
   rw [Nat.succ_mul]
   by_cases hj:j < xs.length
   ·rw [takeP_succ xs j hj,sizeM_snoc]
    split
    ·rename_i hg
     have:=hK _ (good_facts hg);omega
    ·omega
   ·rw [List.take_of_length_le (by omega)] at ih ⊢
    omega
set_option maxHeartbeats 4000000 in
theorem wsize_any (p:Option Addr) (n c:Nat) (xs:List MP) (w:World) (h:MemsAt w p n xs) (hn:n≤100000) (hF:Fit xs) (hN:Need w) :
 Calls Tryz.prog 23 #[.slice p n c] w fun e w' => e=.returned (.int .i64 (sizeM (xs.map MP.m):Nat))∧Below w.heap.size w w':=by
 have hlen:∀ j,sizeM ((xs.take j).map MP.m)≤j * 3000000:=fun j => sizeM_take xs 3000000 (fun m hm => putM_le hm) j
 have HM:=Lib.hid h;have HL:=Lib.hid h.1;have HF:=Lib.hid hF;have HLEN:=Lib.hid hlen;have HN:=Lib.hid hN;clear h hF hN hlen
 go_enter Tryz.func23,Tryz.ntmps23
 go_wp2_with fail
 go_loopw [3,5,6,7,10] (fun s _ _ _ i wr => ∃ (j S:Nat),j≤n∧i=.int .i64 (j:Int)∧s=.int .i64 (S:Int)∧Hid (sizeM ((xs.take j).map MP.m)=S)∧Hid (Below w.heap.size w wr)) (fun _ _ _ _ i _ => n - (RowKit.intOf i).toNat)
 case atStart => exact ⟨0,0,Nat.zero_le _,rfl,rfl,Lib.hid (by simp [sizeM]),Lib.hid (Below.refl _ _)⟩
 case round =>
  obtain ⟨j,S,hj,rfl,rfl,hS,hB⟩:=hrel
  by_cases hlt:j < n
  ·have hlx:j < xs.length:=by rw [HL.out];exact hlt
   have hfit:=HF.out _ (getP_mem xs j hlx);have hT:=takeP_succ xs j hlx;obtain ⟨b,o,rfl,hb,hBd,c0,c1,c2,c3,c4,c5,c6,c7⟩:=(HM.out.below hB.out).cells hlt;obtain ⟨y,hy⟩:∃ y,xs.getD j zeroP=y:=⟨_,rfl⟩;rw [hy] at hT hfit hBd c0 c1 c2 c3 c4 c5 c6 c7;rw [Nat.mul_comm] at c0 c1 c2 c3 c4 c5 c6 c7;obtain ⟨W,hW⟩:∃ W,wr.alloc (.cells #[.string (str y.m.path),.string (str y.m.target),.int .u8 (y.m.kind.toNat:Int),.int .i64 y.m.mode,.int .i64 y.m.uid,.int .i64 y.m.gid,.int .i64 y.m.time,.slice y.p y.m.body.length y.c] 26)=W:=⟨_,rfl⟩;have hbW:Below wr.heap.size wr W:=by rw [← hW];exact (Below.refl _ _).alloc (Nat.le_refl _) _
   have hBW:=hB.out.trans (hbW.mono hB.out.size);have hSb:S≤j * 3000000:=by rw [← hS.out];exact HLEN.out j
   have hSb2:S≤300000000000:=by omega
   have HW:=Lib.hid hW;have HBW:=Lib.hid hBW;have HT:=Lib.hid hT;have HFT:=Lib.hid hfit;have HBD:=Lib.hid (hBd.bat.below hbW);have hltz:(j:Int) < (n:Int):=by omega
   clear hT hb hy hlx hW hbW hBW hfit hBd hSb
   go_upto_region 5 with fail
   rw [HW.out];have m0:W.cell? ⟨wr.heap.size,0,none⟩=some (.string (str y.m.path)):=by rw [← HW.out];exact (Blk.new wr _ _).cell 0
   have m1:W.cell? ⟨wr.heap.size,1,none⟩=some (.string (str y.m.target)):=by rw [← HW.out];exact (Blk.new wr _ _).cell 1
   have m2:W.cell? ⟨wr.heap.size,2,none⟩=some (.int .u8 (y.m.kind.toNat:Int)):=by rw [← HW.out];exact (Blk.new wr _ _).cell 2
   have m3:W.cell? ⟨wr.heap.size,3,none⟩=some (.int .i64 y.m.mode):=by rw [← HW.out];exact (Blk.new wr _ _).cell 3
   have m4:W.cell? ⟨wr.heap.size,4,none⟩=some (.int .i64 y.m.uid):=by rw [← HW.out];exact (Blk.new wr _ _).cell 4
   have m5:W.cell? ⟨wr.heap.size,5,none⟩=some (.int .i64 y.m.gid):=by rw [← HW.out];exact (Blk.new wr _ _).cell 5
   have m6:W.cell? ⟨wr.heap.size,6,none⟩=some (.int .i64 y.m.time):=by rw [← HW.out];exact (Blk.new wr _ _).cell 6
   have m7:W.cell? ⟨wr.heap.size,7,none⟩=some (.slice y.p y.m.body.length y.c):=by rw [← HW.out];exact (Blk.new wr _ _).cell 7
   cases hg:goodD y.m with
   | false =>
     have hP:=wput_no y.m y.p y.c W HFT.out.1 HFT.out.2 hg (HN.out.below HBW.out);unfold memC at hP;have HP:=Lib.hid hP
     have HS1:Hid (sizeM ((xs.take (j+1)).map MP.m)=S):=Lib.hid (by
      rw [HT.out,sizeM_snoc,hg,hS.out,if_neg (by simp),Nat.add_zero])
     clear hP hg
     go_wp2_with fail
     refine HP.out.mono ?_
     rintro e w3 ⟨rfl,hb3⟩;have HB3:=Lib.hid (HBW.out.trans (hb3.mono HBW.out.size));clear hb3 m0 m1 m2 m3 m4 m5 m6 m7 c0 c1 c2 c3 c4 c5 c6 c7
     go_wp2
     go_roundw
     case rel => exact ⟨j+1,S,by omega,by go_num,rfl,HS1,HB3⟩
     case measure => simp [RowKit.intOf];omega
   | true =>
     have hP:=wput_yes y.m y.p y.c W hg HBD.out (HN.out.below HBW.out);obtain ⟨k,hk⟩:∃ k,(putM y.m).length=k:=⟨_,rfl⟩;have hkl:k≤3000000:=by rw [← hk];exact putM_le (good_facts hg)
     unfold memC at hP;have HP:=Lib.hid hP;have HK:=Lib.hid hk
     have HS1:Hid (sizeM ((xs.take (j+1)).map MP.m)=S+k):=Lib.hid (by
      rw [HT.out,sizeM_snoc,hg,hS.out,if_pos rfl,hk])
     clear hP hg hk
     go_wp2_with fail
     refine HP.out.mono ?_
     rintro e w3 ⟨v3,rfl,ho3,hb3⟩;have HB3:=Lib.hid (HBW.out.trans (hb3.mono HBW.out.size));obtain ⟨p3,d3,rfl,_⟩:=ho3.slice;rw [HK.out];clear hb3 ho3 m0 m1 m2 m3 m4 m5 m6 m7 c0 c1 c2 c3 c4 c5 c6 c7
     go_wp2
     go_roundw
     case rel => exact ⟨j+1,S+k,by omega,by go_num,by go_num,HS1,HB3⟩
     case measure => simp [RowKit.intOf];omega
  ·have hks:¬ ((j:Int) < (n:Int)):=by omega
   have E:Hid (sizeM (xs.map MP.m)=S):=Lib.hid (by rw [← hS.out,List.take_of_length_le (by rw [HL.out];omega)])
   go_wp2
   go_ret
   exact ⟨by rw [E.out];rfl,hB.out⟩
end Go.Proofs.YtnpkcneojilmkaaGreatDoor.Wr
end
section
namespace Go.Proofs.YtnpkcneojilmkaaGreatDoor.Wr
open Go.ChangeShapes Go.WideShapes Go.ChangeAt Go.RowKit Base Byt Txt Bk Hp Head Rec Attr Mem Block Go.Lib
set_option linter.unusedVariables false
set_option maxRecDepth 100000
def fileA:MemV:=⟨[97],[],48,0,0,0,0,[120]⟩
def dirA:MemV:=⟨[97],[],53,0,0,0,0,[]⟩
theorem fileA_good:goodD fileA=true:=by decide +kernel
theorem dirA_good:goodD dirA=true:=by decide +kernel
theorem zeroA_bad:goodD zeroM=false:=by decide +kernel
theorem mems_one {w:World} {b:Nat} {y:MP} (hb:Blk w b 26 y.cs) (hB:BodyAt w y):MemsAt w (some ⟨b,0,none⟩) 1 [y]:=by
 refine ⟨rfl,fun x hx => by rw [List.mem_singleton] at hx;subst hx;exact hB,fun _ => ⟨b,0,rfl,hb.lt,fun i hi j hj => ?_⟩⟩
 obtain rfl:i=0:=by omega
 rw [show 0+8 * 0+j=j by omega]
 exact hb.cell j
theorem archA:(archD [fileA]).length=2048∧(archD [fileA]).getD 0 0=97∧(archD [fileA]).getD 512 0=120:=by decide +kernel
theorem sizeA:sizeM [dirA]=512:=by
 have h:=putM_plain (good_facts dirA_good) (by decide +kernel)
 have e:blocksOf dirA.body.length=0:=by decide
 simp only [sizeM,List.map_cons,List.map_nil,dirA_good,if_true,List.sum_cons,List.sum_nil,h,e];rfl
theorem body_empty (w:World) (m:MemV) (h:m.body=[]):BodyAt w ⟨m,none,0⟩:=by
 refine ⟨?_,?_,?_⟩
 ·show BAt w none m.body.length m.body
  rw [h];exact fun h0 => absurd h0 (by decide)
 ·show m.body.length≤0
  rw [h];exact Nat.le_refl _
 ·show (0:Nat)≤_
  decide
set_option maxHeartbeats 4000000 in
theorem ans09_any (w:World) (hN:Need w):Calls Tryz.prog 18 #[] w fun e w' => e=.returned (.bool true)∧Below w.heap.size w w':=by
 have kc:(convert 24 24 (.slice (some ⟨w.heap.size,0,none⟩) 1 1)).run Tryz.prog (w.alloc (.cells #[.int .u8 120] 5))=.ok (.slice (some ⟨w.heap.size,0,none⟩) 1 1) (w.alloc (.cells #[.int .u8 120] 5 (1,2))):=
  Lib.run_convert_bytes_const (P:=Tryz.prog) w 24 5 #[.int .u8 120] 1 1 Tryz.underlying24 Tryz.underlying5
 obtain ⟨W1,hW1⟩:∃ W1,(w.alloc (.cells #[.int .u8 120] 5 (1,2))).alloc (.cells #[.string ⟨#[97]⟩,.string ⟨#[]⟩,.int .u8 48,.int .i64 0,.int .i64 0,.int .i64 0,.int .i64 0,.slice (some ⟨w.heap.size,0,none⟩) 1 1] 26)=W1:=⟨_,rfl⟩;have hB1:Below w.heap.size w W1:=by rw [← hW1];exact ((Below.refl _ w).alloc (Nat.le_refl _) _).alloc (by simp) _
 have hb1:Blk W1 (w.heap.size+1) 26 (MP.cs ⟨fileA,some ⟨w.heap.size,0,none⟩,1⟩):=by
  have:=Blk.new (w.alloc (.cells #[.int .u8 120] 5 (1,2))) 26 (MP.cs ⟨fileA,some ⟨w.heap.size,0,none⟩,1⟩);rw [World.size_alloc] at this;rw [← hW1];exact this
 have ht1:BAt W1 (some ⟨w.heap.size,0,none⟩) 1 [120]:=fun _ => ⟨w.heap.size,0,rfl,fun i hi => by
  obtain rfl:i=0:=by omega
  rw [← hW1]
  have:(w.alloc (.cells #[.int .u8 120] 5 (1,2))).cell? ⟨w.heap.size,0,none⟩=some (.int .u8 120):=by
   unfold World.cell?;rw [heap_alloc_new];rfl
  exact (((Below.refl (w.heap.size+1) (w.alloc (.cells #[.int .u8 120] 5 (1,2)))).alloc (by simp) _).cell (p:=⟨w.heap.size,0,none⟩) (by show w.heap.size < w.heap.size+1;omega)).trans this⟩
 have hm1:MemsAt W1 (some ⟨w.heap.size+1,0,none⟩) 1 [⟨fileA,some ⟨w.heap.size,0,none⟩,1⟩]:=mems_one hb1 ⟨ht1,by show (1:Nat)≤1;decide,by show (1:Nat)≤maxLen;decide⟩
 have hA:=warch_yes (some ⟨w.heap.size+1,0,none⟩) 1 1 [⟨fileA,some ⟨w.heap.size,0,none⟩,1⟩] W1 hm1 (by decide) (fun x hx => by rw [List.mem_singleton.1 hx];exact fileA_good) (hN.below hB1)
 have HW1:=Lib.hid hW1;have HB1:=Lib.hid hB1;have HA:=Lib.hid hA;have HN:=Lib.hid hN;clear hW1 hB1 hb1 ht1 hm1 hA hN
 go_enter Tryz.func18,Tryz.ntmps18
 go_wp2_with fail
 rw [HW1.out];refine HA.out.mono ?_
 rintro e w2 ⟨v2,rfl,ho2,hb2⟩;obtain ⟨p2,c2,rfl,_,_,hbt2,_,_⟩:=ho2.slice;rw [show ([⟨fileA,some ⟨w.heap.size,0,none⟩,1⟩]:List MP).map MP.m=[fileA] from rfl,archA.1] at hbt2 ⊢
 have HB2:=Lib.hid (HB1.out.trans (hb2.mono HB1.out.size));obtain ⟨b,o,rfl,hbw,hcell⟩:=hbt2.cell (show 0 < 2048 by decide)
 have k0:=hcell 0 (by decide)
 have k1:=hcell 512 (by decide)
 rw [archA.2.1,Nat.add_zero] at k0;rw [archA.2.2] at k1;have HK:=Lib.hid (And.intro hbw (And.intro k0 k1));obtain ⟨W3,hW3⟩:∃ W3,w2.alloc (.cells #[.string ⟨#[]⟩,.string ⟨#[]⟩,.int .u8 0,.int .i64 0,.int .i64 0,.int .i64 0,.int .i64 0,.slice none 0 0] 26)=W3:=⟨_,rfl⟩;have h23:Below w2.heap.size w2 W3:=by rw [← hW3];exact (Below.refl _ _).alloc (Nat.le_refl _) _
 have hm3:MemsAt W3 (some ⟨w2.heap.size,0,none⟩) 1 [⟨zeroM,none,0⟩]:=mems_one (by rw [← hW3];exact Blk.new w2 _ _) (body_empty W3 zeroM rfl)
 have HB3:=Lib.hid (HB2.out.trans (h23.mono HB2.out.size));have HA3:=Lib.hid (warch_bad (some ⟨w2.heap.size,0,none⟩) 1 1 [⟨zeroM,none,0⟩] W3 hm3 (by decide) (fun x hx => by rw [List.mem_singleton.1 hx];decide) (by show (goodD zeroM && true)=false;rw [zeroA_bad];rfl) (HN.out.below HB3.out))
 have HW3:=Lib.hid hW3;have H23:=Lib.hid h23;clear hb2 ho2 hbt2 hbw hcell k0 k1 hW3 h23 hm3
 go_wp2_with fail
 rw [HW3.out];refine HA3.out.mono ?_
 rintro e w4 ⟨rfl,hb4⟩;have HB4:=Lib.hid (HB3.out.trans (hb4.mono HB3.out.size));have h24:Below w2.heap.size w2 w4:=H23.out.trans (hb4.mono H23.out.size);have k0:w4.cell? ⟨b,o,none⟩=some (.int .u8 97):=(h24.cell (p:=⟨b,o,none⟩) HK.out.1).trans HK.out.2.1;have k1:w4.cell? ⟨b,o+512,none⟩=some (.int .u8 120):=(h24.cell (p:=⟨b,o+512,none⟩) HK.out.1).trans HK.out.2.2;obtain ⟨W5,hW5⟩:∃ W5,w4.alloc (.cells #[.string ⟨#[97]⟩,.string ⟨#[]⟩,.int .u8 53,.int .i64 0,.int .i64 0,.int .i64 0,.int .i64 0,.slice none 0 0] 26)=W5:=⟨_,rfl⟩;have h45:Below w4.heap.size w4 W5:=by rw [← hW5];exact (Below.refl _ _).alloc (Nat.le_refl _) _
 have hm5:MemsAt W5 (some ⟨w4.heap.size,0,none⟩) 1 [⟨dirA,none,0⟩]:=mems_one (by rw [← hW5];exact Blk.new w4 _ _) (body_empty W5 dirA rfl)
 have HB5:=Lib.hid (HB4.out.trans (h45.mono HB4.out.size));have hZ:=wsize_any (some ⟨w4.heap.size,0,none⟩) 1 1 [⟨dirA,none,0⟩] W5 hm5 (by decide) (fun x hx => by rw [List.mem_singleton.1 hx];decide) (HN.out.below HB5.out)
 rw [show ([⟨dirA,none,0⟩]:List MP).map MP.m=[dirA] from rfl,sizeA] at hZ
 have HZ:=Lib.hid hZ;have HW5:=Lib.hid hW5;clear hb4 h24 hW5 h45 hm5 hZ
 go_wp2_with fail
 rw [HW5.out];refine HZ.out.mono ?_
 rintro e w6 ⟨rfl,hb6⟩;have FIN:=Lib.hid (HB5.out.trans (hb6.mono HB5.out.size));clear hb6 k0 k1
 go_wp2
 go_ret
 exact ⟨rfl,FIN.out⟩
end Go.Proofs.YtnpkcneojilmkaaGreatDoor.Wr
end
section
namespace Go.Proofs.YtnpkcneojilmkaaGreatDoor.Attr
open Go.ChangeShapes Go.WideShapes Go.ChangeAt Go.RowKit Go.Shelf Base Byt Txt Rec Bk Go.Lib
set_option linter.unusedVariables false
set_option maxRecDepth 100000
attribute [local go_sem] Oper.semAt_some
abbrev RecI:=Nat × (List UInt8 × List UInt8)
def encI (x:RecI):Array Value:=#[.int .i64 (x.1:Int),.agg #[.string (str x.2.1),.string (str x.2.2)]]
def backTo (rs:RecL) (m:Nat):List RecI:=(List.range m).map fun t => (rs.length - 1 - t,rs.getD (rs.length - 1 - t) ([],[]))
theorem backTo_succ (rs:RecL) (m:Nat):backTo rs (m+1)=backTo rs m++[(rs.length - 1 - m,rs.getD (rs.length - 1 - m) ([],[]))]:=by simp [backTo,List.range_succ]
theorem backTo_length (rs:RecL) (m:Nat):(backTo rs m).length=m:=by simp [backTo]
theorem backTo_all (rs:RecL):(backTo rs rs.length).map (·.2)=rs.reverse:=by
 apply List.ext_getElem
 ·simp [backTo]
 ·intro i h1 h2
  have hi:i < rs.length:=by simpa using h2
  simp [backTo,List.getD,show rs.length - 1 - i < rs.length by omega]
theorem backTo_pre (rs:RecL) (m:Nat) (hm:m≤rs.length):backTo rs m <+: backTo rs rs.length:=by
 refine ⟨(backTo rs rs.length).drop m,?_⟩
 have:backTo rs m=(backTo rs rs.length).take m:=by
  simp [backTo,← List.map_take,List.take_range,Nat.min_eq_left hm]
 rw [this,List.take_append_drop]
set_option maxHeartbeats 1000000 in
theorem back_in (F:Fence) (n:Nat) (hF:F=Fence.wide) (hn:1≤n) (l Bs n₀:Nat) (p:Option Addr) (c:Nat) (rs:RecL) (hreach:rs.length≤4611686018427387904) (J Jx:List RecI → World → Prop)
 (hY:∀ pre x W,J pre W → pre.length < rs.length → YieldAt F (n - 1) Tryz.prog l (encI x) W fun e W' =>
  (e=.returned (.bool true)∧J (pre++[x]) W'∧Below n₀ W W') ∨ (e=.returned (.bool false)∧Jx (pre++[x]) W'))
 (W:World) (hBn:Bs < n₀) (hBs:W.cell? ⟨Bs,0,none⟩=some (.slice p rs.length c))
 (hR:0 < rs.length → ∃ b o,p=some ⟨b,o,none⟩∧b < n₀ ∧ ∀ i,i < rs.length → W.cell? ⟨b,o+2 * i,none⟩=some (.string (str (rs.getD i ([],[])).1))∧W.cell? ⟨b,o+2 * i+1,none⟩=some (.string (str (rs.getD i ([],[])).2))) (h0:J [] W) :
 CallsIn F n Tryz.prog 171 #[.func (.yield l) #[] #[],.pointer (some ⟨Bs,0,none⟩)] W fun e W' => (∃ v,e=.returned v) ∧
  ((∃ ys,ys=backTo rs rs.length∧J ys W') ∨ (∃ pre,pre <+: backTo rs rs.length∧Jx pre W')):=by
 subst hF;obtain ⟨N,hN⟩:∃ N,rs.length=N:=⟨_,rfl⟩;rw [hN] at hBs hreach;refine callsIn_of_wp Tryz.func171 rfl trivial ?_ rfl;simp only [Tryz.ntmps171,List.size_toArray,List.length_cons,List.length_nil,Nat.reduceAdd,Nat.reduceSub,Array.replicate_succ,Array.replicate_zero,List.push_toArray,List.append_toArray,List.nil_append,List.cons_append]
 gi_wp2
 gi_loopw [3] (fun i wr => ∃ k:Nat,k≤N∧i=.int .i64 ((k:Int) - 1)∧J (backTo rs (N - k)) wr∧Below n₀ W wr)
  (fun i _ => (RowKit.intOf i+1).toNat)
 case atStart => exact ⟨N,Nat.le_refl _,rfl,by rw [Nat.sub_self];exact h0,Below.refl _ _⟩
 case round =>
  obtain ⟨k,hk,rfl,hJs,hnx⟩:=hrel
  cases k with
  | zero =>
    have hJ':J (backTo rs rs.length) wr:=by rw [hN];exact hJs
    clear hJs hY
    gi_wp2
    go_end0
    exact ⟨⟨_,rfl⟩,.inl ⟨_,rfl,hJ'⟩⟩
  | succ j =>
    rw [show (((j+1:Nat):Int) - 1)=(j:Int) by omega]
    obtain ⟨b,o,rfl,hb,hc⟩:=hR (by omega)
    obtain ⟨c0,c1⟩:=hc j (by omega)
    have hcb:=(hnx.cell (p:=⟨Bs,0,none⟩) hBn).trans hBs;have d0:=(hnx.cell (p:=⟨b,o+2 * j,none⟩) hb).trans c0;have d1:=(hnx.cell (p:=⟨b,o+2 * j+1,none⟩) hb).trans c1;rw [Nat.mul_comm] at d0 d1;obtain ⟨r,hr⟩:∃ r,rs.getD j ([],[])=r:=⟨_,rfl⟩;rw [hr] at d0 d1
    have hs:backTo rs (N - j)=backTo rs (N - (j+1))++[(j,r)]:=by
     have:N - j=N - (j+1)+1:=by omega
     rw [this,backTo_succ,show rs.length - 1 - (N - (j+1))=j by omega,hr]
    obtain ⟨fn,tmps,assign,body,hy,hR'⟩:=hY (backTo rs (N - (j+1))) (j,r) wr hJs (by rw [backTo_length];omega)
    simp only [encI] at hy;have HS:=Lib.hid hs;have hp2:=backTo_pre rs (N - j) (by omega)
    have HP:=Lib.hid hp2;rw [← hs] at hR';clear hs hY hR hJs c0 c1 hc hp2 hBs hr
    gi_wp2
    refine hR'.mono ?_
    rintro e W3 (⟨rfl,hJ3,hk3⟩ | ⟨rfl,hJx3⟩)
    ·gi_wp2
     go_roundw
     case rel => exact ⟨j,by omega,rfl,hJ3,hnx.trans hk3⟩
     case measure => simp [RowKit.intOf]
    ·gi_wp2
     refine bodyPost_ret (results_none rfl _ _ _) rfl ?_
     exact ⟨⟨_,rfl⟩,.inr ⟨_,HP.out,hJx3⟩⟩
theorem back_stops (n:Nat) (hn:1≤n) (Bs:Nat) (p:Option Addr) (c:Nat) (rs:RecL) (hreach:rs.length≤4611686018427387904) (w:World) (hBn:Bs < w.heap.size) (hc:w.cell? ⟨Bs,0,none⟩=some (.slice p rs.length c)) (hR:RecsAt w p rs.length rs) :
 SeqStopsK Fence.wide n Tryz.prog 171 #[.pointer (some ⟨Bs,0,none⟩)] encI (Below w.heap.size) (fun ys => ys=backTo rs rs.length) (fun pre => pre <+: backTo rs rs.length) rs.length w:=fun l J Jx W hW _ _ hY h0 =>
 back_in Fence.wide n rfl hn l Bs w.heap.size p c rs hreach J Jx hY W hBn ((hW.cell (p:=⟨Bs,0,none⟩) hBn).trans hc)
  (fun h0 => by
   obtain ⟨b,o,hp,hb,hc⟩:=hR.2 h0
   exact ⟨b,o,hp,hb,fun i hi => ⟨(hW.cell (p:=⟨b,o+2 * i,none⟩) hb).trans (hc i hi).1,(hW.cell (p:=⟨b,o+2 * i+1,none⟩) hb).trans (hc i hi).2⟩⟩) h0
theorem backward_any (p:Option Addr) (n c:Nat) (w:World) :
 Calls Tryz.prog 157 #[.slice p n c] w fun e w' => e=.returned (.func (.func 171) #[] #[.pointer (some ⟨w.heap.size,0,none⟩)])∧w'=w.alloc (.cells #[.slice p n c] 106):=by
 go_enter Tryz.func157,Tryz.ntmps157
 go_wp2
 go_ret
 exact ⟨rfl,rfl⟩
end Go.Proofs.YtnpkcneojilmkaaGreatDoor.Attr
end
section
namespace Go.Proofs.YtnpkcneojilmkaaGreatDoor.Attr
open Go.ChangeShapes Go.WideShapes Go.ChangeAt Go.RowKit Go.Shelf Base Byt Txt Rec Bk Go.Lib
set_option linter.unusedVariables false
set_option maxRecDepth 100000
attribute [local go_sem] Oper.semAt_some
def recC (k v:List UInt8):Array Value:=#[.string (str k),.string (str v)]
def lastV (rs:RecL) (k:List UInt8):Value:=match lastD rs k with
 | some v => .tuple #[.agg (recC k v),.bool true]
 | none => .tuple #[.agg (recC [] []),.bool false]
theorem lastD_rev {rs pre:RecL} {x:List UInt8 × List UInt8} {rest:RecL} {k:List UInt8} (h:rs.reverse=pre++x :: rest) (hp:∀ r ∈ pre,r.1≠k) (hx:x.1=k):lastD rs k=some x.2:=by
 have e:rs=rest.reverse++x :: pre.reverse:=by
  have:=congrArg List.reverse h;rw [List.reverse_reverse,List.reverse_append,List.reverse_cons,List.append_assoc] at this;exact this
 rw [e,lastD_app,lastD,lastD_none (rs:=pre.reverse) fun r hr => hp r (List.mem_reverse.1 hr)]
 simp [hx]
theorem ret_rec (tmps:Array Value) (w:World) (b0 b1:Nat) (a b:ByteArray) (o:Bool) (h0:tmps[4]? = some (.pointer (some ⟨b0,0,none⟩))) (h1:tmps[5]? = some (.pointer (some ⟨b1,0,none⟩)))
 (c0:Blk w b0 37 #[.string a,.string b]) (c1:Blk w b1 4 #[.bool o]) :
 (results Tryz.f142 tmps).run Tryz.prog w=.ok (.tuple #[.agg #[.string a,.string b],.bool o]) w:=by
 have d0:=c0.cell 0;have d1:=c0.cell 1;have d2:=c1.cell 0;simp at d0 d1 d2;simp [results,Tryz.f142,go_sem,h0,h1,d0,d1,d2]
set_option maxHeartbeats 2000000 in
theorem last_any (k:List UInt8) (p:Option Addr) (n c:Nat) (rs:RecL) (w:World) (hn:n≤4611686018427387904) (h:RecsAt w p n rs) :
 Calls Tryz.prog 142 #[.string (str k),.slice p n c] w fun e w' => e=.returned (lastV rs k)∧Below w.heap.size w w':=by
 obtain rfl:rs.length=n:=h.1;have H:=Lib.hid h;clear h;refine (callsIn_wide (n:=3)).1 ?_
 refine callsIn_of_wp_marks Tryz.func142 rfl trivial ?_ rfl;simp only [Tryz.ntmps142,List.size_toArray,List.length_cons,List.length_nil,Nat.reduceAdd,Nat.reduceSub,Array.replicate_succ,Array.replicate_zero,List.push_toArray,List.append_toArray,List.nil_append,List.cons_append]
 gi_wp2_with fail
 refine ⟨trivial,(callsIn_wide.2 (backward_any _ _ _ _)).mono ?_⟩;rintro e w' ⟨rfl,rfl⟩
 gi_wp2_with fail
 have bK:Blk _ w.heap.size 9 #[.string (str k)]:=(((Blk.new w 9 #[.string (str k)]).alloc (.cells #[.string ⟨#[]⟩,.string ⟨#[]⟩] 37)).alloc (.cells #[.bool false] 4)).alloc (.cells #[.slice p rs.length c] 106);have bR:=((Blk.new (w.alloc (.cells #[.string (str k)] 9)) 37 #[.string ⟨#[]⟩,.string ⟨#[]⟩]).alloc (.cells #[.bool false] 4)).alloc (.cells #[.slice p rs.length c] 106);have bO:=(Blk.new ((w.alloc (.cells #[.string (str k)] 9)).alloc (.cells #[.string ⟨#[]⟩,.string ⟨#[]⟩] 37)) 4 #[.bool false]).alloc (.cells #[.slice p rs.length c] 106);have bS:=Blk.new (((w.alloc (.cells #[.string (str k)] 9)).alloc (.cells #[.string ⟨#[]⟩,.string ⟨#[]⟩] 37)).alloc (.cells #[.bool false] 4)) 106 #[.slice p rs.length c]
 have hB0:Below w.heap.size w ((((w.alloc (.cells #[.string (str k)] 9)).alloc (.cells #[.string ⟨#[]⟩,.string ⟨#[]⟩] 37)).alloc (.cells #[.bool false] 4)).alloc (.cells #[.slice p rs.length c] 106)):=
  ((((Below.refl _ w).alloc (Nat.le_refl _) _).alloc (by simp) _).alloc (by simp;omega) _).alloc (by simp;omega) _
 have hsz:((((w.alloc (.cells #[.string (str k)] 9)).alloc (.cells #[.string ⟨#[]⟩,.string ⟨#[]⟩] 37)).alloc (.cells #[.bool false] 4)).alloc (.cells #[.slice p rs.length c] 106)).heap.size=w.heap.size+4:=by simp
 simp only [World.size_alloc] at bR bO bS;obtain ⟨W0,hW0⟩:∃ W0,(((w.alloc (.cells #[.string (str k)] 9)).alloc (.cells #[.string ⟨#[]⟩,.string ⟨#[]⟩] 37)).alloc (.cells #[.bool false] 4)).alloc (.cells #[.slice p rs.length c] 106)=W0:=⟨_,rfl⟩;rw [hW0] at bK bR bO bS hB0 hsz ⊢;clear hW0;have HSZ:=Lib.hid hsz;have HB0:=Lib.hid hB0;have hR0:=H.out.below hB0
 refine wpIn_rangeFunc_ownH rfl (by omega) (gf:=171) (lb:=#[.pointer (some ⟨w.heap.size+1+1+1,0,none⟩)]) rfl trivial (enters_of Tryz.func171 (by kernel_rfl) rfl)
  (back_stops _ (by omega) (w.heap.size+1+1+1) p c rs hn W0 (by omega) (bS.cell 0) hR0) belowK_t (belowK_b (Nat.le_refl _)) (Below.refl _ _) (fun _ => rfl)
  (fun pre W => (Blk W w.heap.size 9 #[.string (str k)]∧Blk W (w.heap.size+1) 37 #[.string ⟨#[]⟩,.string ⟨#[]⟩]∧Blk W (w.heap.size+1+1) 4 #[.bool false] ∧ ∀ x ∈ pre,x.2.1≠k)∧Below W0.heap.size W0 W)
  (fun c pre W => (c=.ret ∧ ∃ pre0 x,pre=pre0++[x]∧(∀ y ∈ pre0,y.2.1≠k)∧x.2.1=k∧Blk W (w.heap.size+1) 37 #[.string (str x.2.1),.string (str x.2.2)]∧Blk W (w.heap.size+1+1) 4 #[.bool true])∧Below w.heap.size w W)
  (OwnFrom.and (Own.from (fun s A B row hs hg hr => ⟨hs.1.kept hg hr,hs.2.1.kept hg hr,hs.2.2.1.kept hg hr,hs.2.2.2⟩) _) (ownFrom_below (Nat.le_refl _) (Nat.le_refl _)))
  (fun c => OwnFrom.and (Own.from (fun s A B row hs hg hr => by obtain ⟨h0,pre0,x,h1,h2,h3,h4,h5⟩:=hs;exact ⟨h0,pre0,x,h1,h2,h3,h4.kept hg hr,h5.kept hg hr⟩) _) (ownFrom_below (Nat.le_refl _) (by omega)))
  ⟨⟨bK,bR,bO,by simp⟩,Below.refl _ _⟩
  (fun x a' W => ∃ Bx,W0.heap.size≤Bx∧Blk W Bx 37 #[.string (str x.2.1),.string (str x.2.2)]∧a' = { tmps:=#[.string (str k),.slice p rs.length c,.pointer (some ⟨w.heap.size,0,none⟩),undef,.pointer (some ⟨w.heap.size+1,0,none⟩),.pointer (some ⟨w.heap.size+1+1,0,none⟩),undef,.pointer (some ⟨Bx,0,none⟩),.slice p rs.length c,.func (.func 171) #[] #[.pointer (some ⟨w.heap.size+1+1+1,0,none⟩)],.int .i64 (x.1:Int),.agg #[.string (str x.2.1),.string (str x.2.2)],undef,undef,undef,undef,undef,undef],defers:=[] })
  (fun x a' _ X Y row hs hg hr => by obtain ⟨Bx,h1,h2,h3⟩:=hs;exact ⟨Bx,h1,h2.kept hg (fun r e => (hr r e).2),h3⟩)
  ?assign ?body ?done ?stop
 case assign =>
  rintro l pre x W K ⟨⟨b1,b2,b3,hx⟩,hB1⟩ hK;have hs:=hB1.size;have HKP:=Lib.hid hK;have HI:=Lib.hid (And.intro (And.intro b1 (And.intro b2 (And.intro b3 hx))) hB1);clear hK b1 b2 b3 hx hB1;simp only [encI]
  gi_wp2
  obtain ⟨⟨b1,b2,b3,hx⟩,hB1⟩:=HI.out;exact HKP.out _ _ ((KeepsOthers.alloc _ _).from _) ((Below.refl _ W).alloc hs _) ⟨⟨b1.alloc _,b2.alloc _,b3.alloc _,hx⟩,hB1.alloc hs _⟩ ⟨W.heap.size,hs,Blk.new _ _ _,rfl⟩
 case body =>
  rintro l pre x a' W hl hr ⟨⟨b1,b2,b3,hx⟩,hB1⟩ ⟨Bx,hBx,bX,rfl⟩ hlt;have hs:=hB1.size;have c0:=b1.cell 0;have d0:=bX.cell 0;have d1:=bX.cell 1;simp only [List.getElem?_toArray,List.getElem?_cons_zero,List.getElem?_cons_succ] at c0 d0 d1
  by_cases hk:x.2.1=k
  ·have e1:((str x.2.1).toList == (str k).toList)=true:=by rw [str_toList,str_toList];simpa using hk
   have f0:=b2.frozen 0;have f1:=b2.frozen 1;have r0:=b2.cell 0;have r1:=b2.cell 1;have f2:=b3.frozen 0;have r2:=b3.cell 0;simp only [List.getElem?_toArray,List.getElem?_cons_zero,List.getElem?_cons_succ] at r0 r1 r2;have HI:=Lib.hid (And.intro (And.intro b1 (And.intro b2 (And.intro b3 hx))) hB1);have HK:=Lib.hid hk;clear hk b1 b2 b3 hx hB1 bX hR0 bK bR bO bS hB0
   gi_wp2
   obtain ⟨⟨b1,b2,b3,hx⟩,hB1⟩:=HI.out;have hBw:Below w.heap.size w W:=HB0.out.trans (hB1.mono (by have:=HSZ.out;omega))
   exact ⟨(((KeepsOthers.setCell _ _ _).trans (KeepsOthers.setCell _ _ _)).trans (KeepsOthers.setCell _ _ _)).from _,
    ⟨rfl,pre,x,rfl,hx,HK.out,((b2.set 0 _ (by decide)).set 1 _ (by simp)).other (by omega) _,((b3.other (by omega) _).other (by omega) _).set 0 _ (by decide)⟩,
    ((hBw.setCell (p:=⟨w.heap.size+1,0,none⟩) (by simp) _).setCell (p:=⟨w.heap.size+1,1,none⟩) (by simp) _).setCell (p:=⟨w.heap.size+1+1,0,none⟩) (by simp;omega) _⟩
  ·have e1:((str x.2.1).toList == (str k).toList)=false:=by rw [str_toList,str_toList];simpa using hk
   have HI:=Lib.hid (And.intro (And.intro b1 (And.intro b2 (And.intro b3 hx))) hB1);have HK:=Lib.hid hk;clear hk b1 b2 b3 hx hB1 bX hR0 bK bR bO bS hB0
   gi_wp2
   obtain ⟨⟨b1,b2,b3,hx⟩,hB1⟩:=HI.out
   exact ⟨KeepsFrom.refl _ _,Below.refl _ _,⟨b1,b2,b3,fun y hy => by
    rcases List.mem_append.1 hy with hy | hy
    ·exact hx y hy
    ·rw [List.mem_singleton.1 hy];exact HK.out⟩,hB1⟩
 case done =>
  rintro D ys W hD rfl ⟨⟨b1,b2,b3,hx⟩,hB1⟩ hK;have f0:=b2.frozen 0;have f1:=b2.frozen 1;have r0:=b2.cell 0;have r1:=b2.cell 1;have f2:=b3.frozen 0;have r2:=b3.cell 0;simp only [List.getElem?_toArray,List.getElem?_cons_zero,List.getElem?_cons_succ] at r0 r1 r2;have HI:=Lib.hid (And.intro (And.intro b1 (And.intro b2 (And.intro b3 hx))) hB1);have HK:=Lib.hid hK;clear hK b1 b2 b3 hx hB1 hR0 bK bR bO bS
  gi_wp2
  obtain ⟨⟨b1,b2,b3,hx⟩,hB1⟩:=HI.out;have hBw:Below w.heap.size w W:=HB0.out.trans (hB1.mono (by have:=HSZ.out;omega))
  have hK':=(((KeepsOthers.setCell W ⟨w.heap.size+1,0,none⟩ (.string ⟨#[]⟩)).trans (KeepsOthers.setCell _ ⟨w.heap.size+1,1,none⟩ (.string ⟨#[]⟩))).trans (KeepsOthers.setCell _ ⟨w.heap.size+1+1,0,none⟩ (.bool false))).same D _ HK.out rfl;refine ⟨by simp,.inl ⟨_,_,rfl,run_takeDeferred hK',?_⟩⟩
  have k0:=(((b2.set 0 (.string ⟨#[]⟩) (by decide)).set 1 (.string ⟨#[]⟩) (by decide)).other (b':=w.heap.size+1+1) (i:=0) (by omega) (.bool false)).kept (grownBy_putObj' _ D (.deferred none)) (fun r e => by cases e;exact ⟨_,hK',rfl⟩)
  have k1:=(((b3.other (b':=w.heap.size+1) (i:=0) (by omega) (.string ⟨#[]⟩)).other (b':=w.heap.size+1) (i:=1) (by omega) (.string ⟨#[]⟩)).set 0 (.bool false) (by decide)).kept (grownBy_putObj' _ D (.deferred none)) (fun r e => by cases e;exact ⟨_,hK',rfl⟩)
  have hv:lastV rs k=.tuple #[.agg #[.string ⟨#[]⟩,.string ⟨#[]⟩],.bool false]:=by
   unfold lastV;rw [lastD_none fun r hr => ?_]
   ·rfl
   ·have:r ∈ (backTo rs rs.length).map (·.2):=by rw [backTo_all];exact List.mem_reverse.2 hr
    obtain ⟨y,hy,rfl⟩:=List.mem_map.1 this;exact hx y hy
  rw [hv]
  exact ⟨_,ret_rec _ _ (w.heap.size+1) (w.heap.size+1+1) ⟨#[]⟩ ⟨#[]⟩ false rfl rfl k0 k1,rfl,
   (((hBw.setCell (p:=⟨w.heap.size+1,0,none⟩) (by simp) _).setCell (p:=⟨w.heap.size+1,1,none⟩) (by simp) _).setCell (p:=⟨w.heap.size+1+1,0,none⟩) (by simp;omega) _).trans (belowK_b (w:=w) (Nat.le_refl _) _ D _ _ (by have:=HSZ.out;omega) hK' rfl rfl)⟩
 case stop =>
  rintro D c pre W hD hpre ⟨⟨rfl,pre0,x,rfl,h1,h2,b2,b3⟩,hB⟩ hK;have HI:=Lib.hid (And.intro b2 (And.intro b3 hB));have HK:=Lib.hid hK;clear b2 b3 hB hK
  gi_wp2
  obtain ⟨b2,b3,hB⟩:=HI.out;have hK':=HK.out;refine ⟨by simp,.inl ⟨_,_,rfl,run_takeDeferred hK',?_⟩⟩
  have k0:=b2.kept (grownBy_putObj' _ D (.deferred none)) (fun r e => by cases e;exact ⟨_,hK',rfl⟩)
  have k1:=b3.kept (grownBy_putObj' _ D (.deferred none)) (fun r e => by cases e;exact ⟨_,hK',rfl⟩)
  have hv:lastV rs k=.tuple #[.agg #[.string (str x.2.1),.string (str x.2.2)],.bool true]:=by
   obtain ⟨rest,hrest⟩:=hpre;have e:=backTo_all rs;rw [← hrest,List.map_append,List.map_append,List.map_singleton,List.append_assoc,List.singleton_append] at e;unfold lastV;rw [lastD_rev e.symm (fun r hr => by obtain ⟨y,hy,rfl⟩:=List.mem_map.1 hr;exact h1 y hy) h2,← h2]
   rfl
  rw [hv];exact ⟨_,ret_rec _ _ (w.heap.size+1) (w.heap.size+1+1) _ _ true rfl rfl k0 k1,rfl,hB.trans (belowK_b (w:=w) (Nat.le_refl _) _ D _ _ (by have:=HSZ.out;omega) hK' rfl rfl)⟩
end Go.Proofs.YtnpkcneojilmkaaGreatDoor.Attr
end
section
namespace Go.Proofs.YtnpkcneojilmkaaGreatDoor.Attr
open Go.ChangeShapes Go.WideShapes Go.ChangeAt Go.RowKit Go.Shelf Base Byt Txt Rec Bk Mk Go.Lib
set_option linter.unusedVariables false
set_option maxRecDepth 100000
abbrev Glob:=List UInt8 → Option (List UInt8)
def recF (F:Glob):List UInt8 → Option Value:=fun k => (F k).map fun v => .agg (recC k v)
def St (w:World) (g:Nat) (mb:Option Nat) (F:Glob):Prop:=
 Blk w g 95 #[.map mb]∧(mb=none → F=noneF) ∧ ∀ B,mb=some B → MapK strK w B (recF F)
def StP (w:World) (p:Option Addr) (F:Glob):Prop:=(p=none∧F=noneF) ∨ ∃ g mb,p=some ⟨g,0,none⟩∧St w g mb F
def stB (g:Nat) (mb:Option Nat):Nat → Prop:=fun k => k=g ∨ mb=some k
section
variable {w w':World} {g:Nat} {mb:Option Nat} {F:Glob} {p:Option Addr}
theorem St.lt (h:St w g mb F):g < w.heap.size:=h.1.lt
theorem St.ltB (h:St w g mb F) {B:Nat} (hB:mb=some B):B < w.heap.size:=(h.2.2 B hB).lt
theorem St.kept {S:Nat → Prop} (h:St w g mb F) (hk:Kept S w w') (hn:∀ k,stB g mb k → ¬ S k):St w' g mb F:=
 ⟨h.1.keptS hk (hn g (.inl rfl)),h.2.1,fun B hB => (h.2.2 B hB).kept hk (hn B (.inr hB))⟩
theorem St.below (h:St w g mb F) (hb:Below w.heap.size w w'):St w' g mb F:=h.kept (Kept.of_below hb noneB) (fun _ _ => id)
theorem StP.below (h:StP w p F) (hb:Below w.heap.size w w'):StP w' p F:=h.imp id fun ⟨g,mb,hp,hs⟩ => ⟨g,mb,hp,hs.below hb⟩
theorem St.new (w:World):St (w.alloc (.cells #[.map none] 95)) w.heap.size none noneF:=⟨Blk.new w _ _,fun _ => rfl,fun _ h => by cases h⟩
theorem St.ptr (h:St w g mb F):StP w (some ⟨g,0,none⟩) F:=.inr ⟨g,mb,rfl,h⟩
theorem StP.nil (w:World):StP w none noneF:=.inl ⟨rfl,rfl⟩
theorem recs_off {p:Option Addr} {n:Nat} {rs:RecL} (h:St w g mb F) (hr:RecsAt w p n rs) (h0:0 < n) {a:Addr} (ha:p=some a):¬ stB g mb a.block:=by
 obtain ⟨b,o,rfl,hb,hc⟩:=hr.2 h0
 cases ha
 have c0:=(hc 0 h0).1;rintro (e | e)
 ·subst e
  rw [h.1.cell] at c0;rcases Nat.eq_zero_or_pos o with rfl | ho
  ·simp at c0
  ·rw [Array.getElem?_eq_none (by simp;omega)] at c0;cases c0
 ·obtain ⟨es,clock,hm,_⟩:=h.2.2 _ e
  simp [World.cell?,hm] at c0
theorem recsAt_kept {S:Nat → Prop} {p:Option Addr} {n:Nat} {rs:RecL} (hr:RecsAt w p n rs) (hk:Kept S w w') (hn:0 < n → ∀ a,p=some a → ¬ S a.block):RecsAt w' p n rs:=by
 refine ⟨hr.1,fun h0 => ?_⟩
 obtain ⟨b,o,rfl,hb,hc⟩:=hr.2 h0;have e:=hk.block b hb (hn h0 _ rfl);exact ⟨b,o,rfl,Nat.lt_of_lt_of_le hb hk.size,fun i hi => ⟨by rw [World.cell?_of_block e];exact (hc i hi).1,by rw [World.cell?_of_block e];exact (hc i hi).2⟩⟩
theorem recZero (w:World):(zeroValue 37).run Tryz.prog w=.ok (.agg #[.string ⟨#[]⟩,.string ⟨#[]⟩]) w:=Tryz.zeroValue37 w
theorem recValue (w:World) (a b:ByteArray):(Instr.field 37 (.agg #[.string a,.string b]) 1).run Tryz.prog w=.ok (.string b) w:=by
 kernel_rfl
theorem st_look (h:St w g mb F) (k:List UInt8) :
 ∃ x:ByteArray,(Instr.lookup 93 (.map mb) (.string (str k)) false).run Tryz.prog w=.ok (.agg #[.string x,.string (str ((F k).getD []))]) w:=by
 cases mb with
 | none =>
   refine ⟨⟨#[]⟩,?_⟩;rw [h.2.1 rfl];exact look_nil (K:=strK) Tryz.underlying93 Tryz.underlying9 recZero k w
 | some B =>
   have hl:=(h.2.2 B rfl).look Tryz.underlying93 Tryz.underlying9 recZero k
   cases hf:F k with
   | none =>
     refine ⟨⟨#[]⟩,?_⟩;rw [show recF F k=none by unfold recF;rw [hf];rfl] at hl
     exact hl
   | some v =>
     refine ⟨str k,?_⟩;rw [show recF F k=some (.agg (recC k v)) by unfold recF;rw [hf];rfl] at hl
     exact hl
end
set_option maxHeartbeats 1000000 in
theorem value_any (s:Option Addr) (F:Glob) (k:List UInt8) (p:Option Addr) (n c:Nat) (rs:RecL) (w:World) (hs:StP w s F) (hn:n≤4611686018427387904) (h:RecsAt w p n rs) :
 Calls Tryz.prog 111 #[.pointer s,.string (str k),.slice p n c] w fun e w' => e=.returned (.string (str (valueD F rs k)))∧Below w.heap.size w w':=by
 have hl:=last_any k p n c rs w hn h;have HS:=Lib.hid hs;clear hs h hn;unfold valueD
 cases hr:lastD rs k with
 | some v =>
   rw [show lastV rs k=.tuple #[.agg #[.string (str k),.string (str v)],.bool true] by unfold lastV;rw [hr];rfl] at hl
   clear hr
   go_enter Tryz.func111,Tryz.ntmps111
   go_wp2_with fail
   refine hl.mono ?_
   rintro e w1 ⟨rfl,hB⟩;have HB:=Lib.hid hB;clear hB hl
   go_wp2
   go_ret
   exact ⟨rfl,HB.out.alloc HB.out.size _⟩
 | none =>
   rw [show lastV rs k=.tuple #[.agg #[.string ⟨#[]⟩,.string ⟨#[]⟩],.bool false] by unfold lastV;rw [hr];rfl] at hl
   clear hr;rcases HS.out with ⟨rfl,rfl⟩ | ⟨g,mb,rfl,hst⟩
   ·go_enter Tryz.func111,Tryz.ntmps111
    go_wp2_with fail
    refine hl.mono ?_
    rintro e w1 ⟨rfl,hB⟩;have HB:=Lib.hid hB;clear hB hl
    go_wp2
    go_ret
    exact ⟨rfl,HB.out.alloc HB.out.size _⟩
   ·have HST:=Lib.hid hst
    clear hst
    go_enter Tryz.func111,Tryz.ntmps111
    go_wp2_with fail
    refine hl.mono ?_
    rintro e w1 ⟨rfl,hB⟩;have hst2:=HST.out.below (hB.alloc hB.size (.cells #[.string ⟨#[]⟩,.string ⟨#[]⟩] 37));obtain ⟨a,hlook⟩:=st_look hst2 k;have c0:=hst2.1.cell 0;simp only [List.getElem?_toArray,List.getElem?_cons_zero] at c0;have HB:=Lib.hid hB;have hfld:=fun w => recValue w a (str ((F k).getD []))
    clear hB hl hst2
    go_wp2
    go_ret
    exact ⟨rfl,HB.out.alloc HB.out.size _⟩
def GlobPost (w:World) (g:Nat) (mb:Option Nat) (F:Glob) (rs:RecL) (e:Ending) (w':World):Prop:=
 e=.returned (.tuple #[]) ∧ ∃ B,St w' g (some B) (moreF F rs)∧Kept (stB g mb) w w'∧(mb=some B ∨ w.heap.size≤B)
theorem recF_more (F:Glob) (rs:RecL) (k v:List UInt8):(fun y => if y=k then some (Value.agg (recC k v)) else recF (moreF F rs) y)=recF (moreF F (rs++[(k,v)])):=by
 funext y
 rw [moreF_snoc];unfold recF
 by_cases h:y=k
 ·subst h;simp
 ·simp [h]
theorem take_one (rs:RecL) (j:Nat) (hj:j < rs.length):rs.take (j+1)=rs.take j++[rs.getD j ([],[])]:=by
 rw [List.take_add_one];simp [List.getD,hj]
theorem St.ne {w:World} {g B:Nat} {F:Glob} (h:St w g (some B) F):¬ oneB B g:=fun e => by
 obtain ⟨es,clock,hm,_⟩:=h.2.2 B rfl;have e:g=B:=e;have h1:=h.1;unfold Blk at h1;rw [e,hm] at h1
 cases h1
set_option maxHeartbeats 2000000 in
theorem global_map (g B:Nat) (F:Glob) (p:Option Addr) (n c:Nat) (rs:RecL) (w:World) (hs:St w g (some B) F) (hn:n≤4611686018427387904) (h:RecsAt w p n rs) :
 Calls Tryz.prog 82 #[.pointer (some ⟨g,0,none⟩),.slice p n c] w (GlobPost w g (some B) F rs):=by
 have HS:=Lib.hid hs;have HR:=Lib.hid h;have HL:=Lib.hid h.1;have c0:=hs.1.cell 0;simp only [List.getElem?_toArray,List.getElem?_cons_zero] at c0;have HF:Hid (∀ wr,Kept (stB g (some B)) w wr → Kept (stB g (some B)) w wr):=Lib.hid (fun _ h => h)
 have HBB:Hid (some B=some B ∨ w.heap.size≤B):=Lib.hid (.inl rfl);clear hs h;have hem:=fun w => run_eql_map_nil (P:=Tryz.prog) w 93 _ _ (some B) Tryz.underlying93
 simp only [Option.isNone_some] at hem
 go_enter Tryz.func82,Tryz.ntmps82
 go_wp2_with fail
 clear c0 hem
 go_loopw [19] (fun i wr => ∃ (j:Nat),j≤n∧i=.int .i64 (j:Int)∧Hid (St wr g (some B) (moreF F (rs.take j))∧RecsAt wr p n rs∧Kept (stB g (some B)) w wr)) (fun i _ => n - (RowKit.intOf i).toNat)
 case atStart => exact ⟨0,Nat.zero_le _,rfl,Lib.hid ⟨by rw [List.take_zero,moreF_nil];exact HS.out,HR.out,Kept.refl _ _⟩⟩
 case round =>
  obtain ⟨j,hj,rfl,hI⟩:=hrel
  by_cases hlt:j < n
  ·obtain ⟨hst,hrs,hk⟩:=hI.out
   have hltz:(j:Int) < (n:Int):=by omega
   obtain ⟨b,o,rfl,hb,hc⟩:=hrs.2 (by omega)
   obtain ⟨x0,x1⟩:=hc j hlt;obtain ⟨⟨rk,rv⟩,hr⟩:∃ u,rs.getD j ([],[])=u:=⟨_,rfl⟩;rw [hr,Nat.mul_comm] at x0 x1;simp only at x0 x1;have hst2:=hst.below ((Below.refl _ wr).alloc (Nat.le_refl _) (.cells #[.string (str rk),.string (str rv)] 37));have hrs2:=hrs.below ((Below.refl _ wr).alloc (Nat.le_refl _) (.cells #[.string (str rk),.string (str rv)] 37));have hk2:=hk.alloc (.cells #[.string (str rk),.string (str rv)] 37);have d0:=hst2.1.cell 0;simp only [List.getElem?_toArray,List.getElem?_cons_zero] at d0;obtain ⟨r0,r1⟩:=cells2 wr 37 (.string (str rk)) (.string (str rv))
   have HI:=Lib.hid (And.intro hst2 (And.intro hrs2 hk2));have HRR:=Lib.hid hr;clear hst hrs hk hb hc hr hst2 hrs2 hk2 hI
   go_wp2_with fail
   obtain ⟨w4,hw4⟩:∃ w4,wr.alloc (.cells #[.string (str rk),.string (str rv)] 37)=w4:=⟨_,rfl⟩;rw [hw4] at d0 HI r0 r1 ⊢;clear hw4 x0 x1
   go_still_tail 7,(by kernel_rfl)
   refine wpList_putK (K:=strK) rfl (.tmp 26) (.tmp 28) (.tmp 29) rfl Tryz.underlying93 Tryz.underlying9 B ((HI.out.1.2.2 B rfl).kept (Kept.refl noneB w4).drew id) rfl rk rfl (.agg (recC rk rv)) rfl ?_
   intro w5 hm5 hk5 hs5
   have HN:Hid (St w5 g (some B) (moreF F (rs.take (j+1)))∧RecsAt w5 (some ⟨b,o,none⟩) n rs∧Kept (stB g (some B)) w w5):=by
    obtain ⟨hst,hrs,hk⟩:=HI.out;have hk':Kept (oneB B) w4 w5:=((Kept.refl (oneB B) w4).drew).trans hk5.out;refine Lib.hid ⟨⟨hst.1.keptS hk' hst.ne,(fun h => by cases h),fun B' h => ?_⟩,recsAt_kept hrs hk' (fun h0 a ha e => recs_off hst hrs h0 ha (.inr (by rw [show a.block=B from e]))),hk.then hk' (fun i hi => .inr (.inr (by rw [show i=B from hi])))⟩
    cases h
    rw [take_one rs j (by rw [HL.out];exact hlt),HRR.out,← recF_more]
    exact hm5.out
   clear hm5 hk5 hs5
   go_wp2
   go_roundw
   case rel => exact ⟨j+1,by omega,by go_num,HN⟩
   case measure => simp [RowKit.intOf];omega
  ·obtain rfl:j=n:=by omega
   have hltz:¬ ((j:Int) < (j:Int)):=by omega
   go_wp2
   go_end0
   have hI:=hI.out;rw [List.take_of_length_le (by rw [HL.out];exact Nat.le_refl _)] at hI
   exact ⟨rfl,B,hI.1,HF.out _ hI.2.2,by first | exact HBB.out | exact .inl rfl⟩
set_option maxHeartbeats 2000000 in
theorem global_none (g:Nat) (p:Option Addr) (n c:Nat) (rs:RecL) (w:World) (hs:St w g none noneF) (hn:n≤4611686018427387904) (h:RecsAt w p n rs) :
 Calls Tryz.prog 82 #[.pointer (some ⟨g,0,none⟩),.slice p n c] w (GlobPost w g none noneF rs):=by
 have c0:=hs.1.cell 0;simp only [List.getElem?_toArray,List.getElem?_cons_zero] at c0;have f0:=hs.1.frozen 0;have f1:=(hs.1.alloc (.map #[] 0)).frozen 0;have c1:=(hs.1.alloc (.map #[] 0)).cell 0;simp only [List.getElem?_toArray,List.getElem?_cons_zero] at c1;have hmm:=@run_makeMap Tryz.prog;have hem:=fun w => run_eql_map_nil (P:=Tryz.prog) w 93 _ _ none Tryz.underlying93
 simp only [Option.isNone_none] at hem;have hgl:g < w.heap.size:=hs.lt;obtain ⟨F,hF⟩:∃ F,F=noneF:=⟨_,rfl⟩;have hka:Kept (stB g none) w ((w.alloc (.map #[] 0)).setCell ⟨g,0,none⟩ (.map (some w.heap.size))):=((Kept.refl (stB g none) w).alloc _).setCell (a:=⟨g,0,none⟩) (.inr (.inl rfl)) _;have hra:=recsAt_kept h hka (fun h0 a ha => recs_off hs h h0 ha)
 have hsa:St ((w.alloc (.map #[] 0)).setCell ⟨g,0,none⟩ (.map (some w.heap.size))) g (some w.heap.size) F:=by
  refine ⟨(hs.1.alloc (.map #[] 0)).set 0 _ (by decide),(fun h => by cases h),fun B' hB => ?_⟩
  cases hB
  have hm:=(mapK_made strK w).kept (((Kept.refl (oneB g) (w.alloc (.map #[] 0)))).setCell (a:=⟨g,0,none⟩) (.inr rfl) (.map (some w.heap.size))) (fun e => by have:w.heap.size=g:=e;omega)
  rw [hF];exact hm
 have HF:Hid (∀ wr,Kept (stB g (some w.heap.size)) ((w.alloc (.map #[] 0)).setCell ⟨g,0,none⟩ (.map (some w.heap.size))) wr → Kept (stB g none) w wr):=Lib.hid (fun wr h => hka.then h (fun i hi => by
  rcases hi with hi | hi
  ·exact .inr (.inl hi)
  ·cases hi;exact .inl (Nat.le_refl _)))
 have HBB:Hid ((none:Option Nat)=some w.heap.size ∨ w.heap.size≤w.heap.size):=Lib.hid (.inr (Nat.le_refl _));have HL:=Lib.hid h.1;have HS:=Lib.hid hsa;have HR:=Lib.hid hra;rw [← hF];clear hsa hra hka h hs hgl hF
 go_enter Tryz.func82,Tryz.ntmps82
 go_wp2_with fail
 obtain ⟨W0,hW0⟩:∃ W0,(w.alloc (.map #[] 0)).setCell ⟨g,0,none⟩ (.map (some w.heap.size))=W0:=⟨_,rfl⟩;obtain ⟨B,hB⟩:∃ B,w.heap.size=B:=⟨_,rfl⟩;rw [hW0,hB] at HS HF;rw [hW0] at HR ⊢;rw [hB];clear HBB;have HBB:Hid ((none:Option Nat)=some B ∨ w.heap.size≤B):=Lib.hid (.inr (by omega))
 clear c0 f0 c1 f1 hem hmm hW0 hB
 go_loopw [19] (fun i wr => ∃ (j:Nat),j≤n∧i=.int .i64 (j:Int)∧Hid (St wr g (some B) (moreF F (rs.take j))∧RecsAt wr p n rs∧Kept (stB g (some B)) W0 wr)) (fun i _ => n - (RowKit.intOf i).toNat)
 case atStart => exact ⟨0,Nat.zero_le _,rfl,Lib.hid ⟨by rw [List.take_zero,moreF_nil];exact HS.out,HR.out,Kept.refl _ _⟩⟩
 case round =>
  obtain ⟨j,hj,rfl,hI⟩:=hrel
  by_cases hlt:j < n
  ·obtain ⟨hst,hrs,hk⟩:=hI.out
   have hltz:(j:Int) < (n:Int):=by omega
   obtain ⟨b,o,rfl,hb,hc⟩:=hrs.2 (by omega)
   obtain ⟨x0,x1⟩:=hc j hlt;obtain ⟨⟨rk,rv⟩,hr⟩:∃ u,rs.getD j ([],[])=u:=⟨_,rfl⟩;rw [hr,Nat.mul_comm] at x0 x1;simp only at x0 x1;have hst2:=hst.below ((Below.refl _ wr).alloc (Nat.le_refl _) (.cells #[.string (str rk),.string (str rv)] 37));have hrs2:=hrs.below ((Below.refl _ wr).alloc (Nat.le_refl _) (.cells #[.string (str rk),.string (str rv)] 37));have hk2:=hk.alloc (.cells #[.string (str rk),.string (str rv)] 37);have d0:=hst2.1.cell 0;simp only [List.getElem?_toArray,List.getElem?_cons_zero] at d0;obtain ⟨r0,r1⟩:=cells2 wr 37 (.string (str rk)) (.string (str rv))
   have HI:=Lib.hid (And.intro hst2 (And.intro hrs2 hk2));have HRR:=Lib.hid hr;clear hst hrs hk hb hc hr hst2 hrs2 hk2 hI
   go_wp2_with fail
   obtain ⟨w4,hw4⟩:∃ w4,wr.alloc (.cells #[.string (str rk),.string (str rv)] 37)=w4:=⟨_,rfl⟩;rw [hw4] at d0 HI r0 r1 ⊢;clear hw4 x0 x1
   go_still_tail 7,(by kernel_rfl)
   refine wpList_putK (K:=strK) rfl (.tmp 26) (.tmp 28) (.tmp 29) rfl Tryz.underlying93 Tryz.underlying9 B ((HI.out.1.2.2 B rfl).kept (Kept.refl noneB w4).drew id) rfl rk rfl (.agg (recC rk rv)) rfl ?_
   intro w5 hm5 hk5 hs5
   have HN:Hid (St w5 g (some B) (moreF F (rs.take (j+1)))∧RecsAt w5 (some ⟨b,o,none⟩) n rs∧Kept (stB g (some B)) W0 w5):=by
    obtain ⟨hst,hrs,hk⟩:=HI.out;have hk':Kept (oneB B) w4 w5:=((Kept.refl (oneB B) w4).drew).trans hk5.out;refine Lib.hid ⟨⟨hst.1.keptS hk' hst.ne,(fun h => by cases h),fun B' h => ?_⟩,recsAt_kept hrs hk' (fun h0 a ha e => recs_off hst hrs h0 ha (.inr (by rw [show a.block=B from e]))),hk.then hk' (fun i hi => .inr (.inr (by rw [show i=B from hi])))⟩
    cases h
    rw [take_one rs j (by rw [HL.out];exact hlt),HRR.out,← recF_more]
    exact hm5.out
   clear hm5 hk5 hs5
   go_wp2
   go_roundw
   case rel => exact ⟨j+1,by omega,by go_num,HN⟩
   case measure => simp [RowKit.intOf];omega
  ·obtain rfl:j=n:=by omega
   have hltz:¬ ((j:Int) < (j:Int)):=by omega
   go_wp2
   go_end0
   have hI:=hI.out;rw [List.take_of_length_le (by rw [HL.out];exact Nat.le_refl _)] at hI
   exact ⟨rfl,B,hI.1,HF.out _ hI.2.2,by first | exact HBB.out | exact .inl rfl⟩
theorem global_any (g:Nat) (mb:Option Nat) (F:Glob) (p:Option Addr) (n c:Nat) (rs:RecL) (w:World) (hs:St w g mb F) (hn:n≤4611686018427387904) (h:RecsAt w p n rs) :
 Calls Tryz.prog 82 #[.pointer (some ⟨g,0,none⟩),.slice p n c] w (GlobPost w g mb F rs):=by
 cases mb with
 | some B => exact global_map g B F p n c rs w hs hn h
 | none =>
   obtain rfl:=hs.2.1 rfl;exact global_none g p n c rs w hs hn h
end Go.Proofs.YtnpkcneojilmkaaGreatDoor.Attr
end
section
namespace Go.Proofs.YtnpkcneojilmkaaGreatDoor.Mem
open Go.ChangeShapes Go.WideShapes Go.ChangeAt Go.RowKit Base Byt Txt Bk Mk Block Attr Rec Go.Lib
set_option linter.unusedVariables false
set_option maxRecDepth 100000
structure RK where
 r:Nat
 g:Nat
 gs:Nat
 mw:Nat
 S:Sv
def waitF (s:RS) (q:Option Addr) (n c:Nat):UInt8 → Option Value:=fun k =>
 if k=120 then (if s.hasX=true then some (.agg #[.string ⟨#[]⟩,.slice q n c]) else none)
 else if k=76 then s.name.map (fun t => .agg #[.string (str t),.slice none 0 0])
 else if k=75 then s.link.map (fun t => .agg #[.string (str t),.slice none 0 0])
 else none
def readerC (K:RK) (v:Value):Array Value:=#[.pointer (some ⟨K.g,0,none⟩),.pointer (some ⟨K.gs,0,none⟩),.map (some K.mw),v]
def Ot (K:RK) (mb:Option Nat) (v:Value):Nat → Prop:=fun k => k=K.r ∨ k=K.gs ∨ k=K.mw ∨ mb=some k ∨ v.ownBlock=some k
structure Rd (w0 w:World) (K:RK) (a:Nat) (s:RS) (mb:Option Nat) (v:Value) (xs:List MP) (q:Option Addr) (n c:Nat):Prop where
 bel:Below w0.heap.size w0 w
 blk:Blk w K.r 74 (readerC K v)
 src:∃ t,Block.Src w K.g K.S a t
 off:K.S.off K.g
 st:St w K.gs mb (lastD s.glob)
 map:MapK u8K w K.mw (waitF s q n c)
 own:RecsAt w q n s.own
 own0:s.hasX=false → s.own=[]
 row:w.ownsRow w0.heap.size 26 8 v xs.length (flatM xs)
 out:xs.map MP.m=s.out
 bodies:∀ x ∈ xs,BodyAt w x
 apart:∀ x ∈ xs,0 < x.m.body.length → ∀ y,x.p=some y → ¬ Ot K mb v y.block∧y.block≠K.g
 sp:0 < K.S.n → ∀ y,K.S.p=some y → ¬ Ot K mb v y.block
 sq:0 < K.S.m → ∀ y,K.S.q=some y → ¬ Ot K mb v y.block
 ne:K.r≠K.g∧K.r≠K.gs∧K.r≠K.mw∧K.g≠K.gs∧K.g≠K.mw∧K.gs≠K.mw
 neB:∀ b,mb=some b → b≠K.r∧b≠K.g∧b≠K.gs∧b≠K.mw∧w0.heap.size≤b
 neV:∀ b,v.ownBlock=some b → b≠K.r∧b≠K.g∧b≠K.gs∧b≠K.mw∧mb≠some b
 base:w0.heap.size≤K.r∧w0.heap.size≤K.g∧w0.heap.size≤K.gs∧w0.heap.size≤K.mw
 many:s.out.length≤4096
 gl:∀ r ∈ s.glob,r.2.length≤1048576
 ol:(∀ r ∈ s.own,r.2.length≤1048576)∧s.own.length≤1048576
 nl:∀ t,s.name=some t → t.length≤1048576
 ll:∀ t,s.link=some t → t.length≤1048576
section
variable {w0 w w':World} {K:RK} {a:Nat} {s:RS} {mb:Option Nat} {v:Value} {xs:List MP} {q:Option Addr} {n c:Nat}
theorem bat_lt {p:Option Addr} {m:Nat} {bs:List UInt8} (h:BAt w p m bs) (h0:0 < m) {y:Addr} (hy:p=some y):y.block < w.heap.size:=by
 obtain ⟨b,o,he,hb,_⟩:=h.cell h0;rw [hy] at he
 cases he
 exact hb
theorem iat_lt {p:Option Addr} {m:Nat} {zs:List Int} (h:IAt w p m zs) (h0:0 < m) {y:Addr} (hy:p=some y):y.block < w.heap.size:=by
 obtain ⟨b,o,he,hb,hc⟩:=h h0;rw [hy] at he
 cases he
 exact hb
theorem recs_off_blk {b:Nat} {t:TypeId} {cs:Array Value} (hb:Blk w b t cs) (hs:∀ (i:Nat) (x:ByteArray),cs[i]? ≠ some (.string x)) {p:Option Addr} {m:Nat} {rs:RecL} (hr:RecsAt w p m rs) (h0:0 < m) {y:Addr} (hy:p=some y):y.block≠b:=by
 obtain ⟨b',o,rfl,hlt,hc⟩:=hr.2 h0
 cases hy
 rintro rfl;have c0:=(hc 0 h0).1;rw [hb.cell] at c0;exact hs _ _ c0
theorem recs_off_map {b:Nat} {α:Type} {Ky:Keying α} {f:α → Option Value} (hm:MapK Ky w b f) {p:Option Addr} {m:Nat} {rs:RecL} (hr:RecsAt w p m rs) (h0:0 < m) {y:Addr} (hy:p=some y):y.block≠b:=by
 obtain ⟨b',o,rfl,hlt,hc⟩:=hr.2 h0
 cases hy
 rintro rfl;obtain ⟨es,clock,hm,_⟩:=hm;have c0:=(hc 0 h0).1;simp [World.cell?,hm] at c0
theorem Rd.own_off_src (h:Rd w0 w K a s mb v xs q n c):0 < n → ∀ y,q=some y → ¬ oneB K.g y.block:=fun h0 y hy e => by
 obtain ⟨t,hs⟩:=h.src;refine recs_off_blk (show Blk w K.g 99 _ from hs.blk) ?_ h.own h0 hy e
 intro i x hx;rcases i with _ | _ | _ | _ | i<;>simp at hx
theorem Rd.own_off_st (h:Rd w0 w K a s mb v xs q n c):0 < n → ∀ y,q=some y → ¬ stB K.gs mb y.block:=fun h0 y hy e => recs_off h.st h.own h0 hy e
theorem Rd.need (h:Rd w0 w K a s mb v xs q n c) (hN:Need w0):Need w:=hN.below h.bel
theorem Rd.idle (h:Rd w0 w K a s mb v xs q n c) (hk:Kept noneB w w'):Rd w0 w' K a s mb v xs q n c where
 bel:=h.bel.trans (hk.below h.bel.size (fun k hk => hk.elim))
 blk:=h.blk.keptS hk id
 src:=by obtain ⟨t,hs⟩:=h.src;exact ⟨t,hs.kept0 hk⟩
 off:=h.off
 st:=h.st.kept hk (fun _ _ => id)
 map:=h.map.kept hk id
 own:=recsAt_kept h.own hk (fun _ _ _ => id)
 own0:=h.own0
 row:=ownsRow_kept h.row hk (fun _ _ => id)
 out:=h.out
 bodies:=fun x hx => (h.bodies x hx).kept hk (fun _ _ _ => id)
 apart:=h.apart
 sp:=h.sp
 sq:=h.sq
 ne:=h.ne
 neB:=h.neB
 neV:=h.neV
 base:=h.base
 many:=h.many
 gl:=h.gl
 ol:=h.ol
 nl:=h.nl
 ll:=h.ll
theorem Rd.below (h:Rd w0 w K a s mb v xs q n c) (hb:Below w.heap.size w w'):Rd w0 w' K a s mb v xs q n c:=h.idle (Kept.of_below hb noneB)
theorem Rd.moved (h:Rd w0 w K a s mb v xs q n c) {a':Nat} (hk:Kept (oneB K.g) w w') (hs:∃ t,Block.Src w' K.g K.S a' t):Rd w0 w' K a' s mb v xs q n c where
 bel:=h.bel.trans (hk.below h.bel.size (fun k hk => by rw [show k=K.g from hk];exact h.base.2.1))
 blk:=h.blk.keptS hk h.ne.1
 src:=hs
 off:=h.off
 st:=h.st.kept hk (fun k hk e => by
  rcases hk with rfl | hk
  ·exact h.ne.2.2.2.1 (show K.gs=K.g from e).symm
  ·exact (h.neB k hk).2.1 e)
 map:=h.map.kept hk (fun e => h.ne.2.2.2.2.1 (show K.mw=K.g from e).symm)
 own:=recsAt_kept h.own hk h.own_off_src
 own0:=h.own0
 row:=ownsRow_kept h.row hk (fun k hk e => (h.neV k hk).2.1 e)
 out:=h.out
 bodies:=fun x hx => (h.bodies x hx).kept hk (fun h0 y hy e => (h.apart x hx h0 y hy).2 e)
 apart:=h.apart
 sp:=h.sp
 sq:=h.sq
 ne:=h.ne
 neB:=h.neB
 neV:=h.neV
 base:=h.base
 many:=h.many
 gl:=h.gl
 ol:=h.ol
 nl:=h.nl
 ll:=h.ll
theorem Rd.waits (h:Rd w0 w K a s mb v xs q n c) {s':RS} {q':Option Addr} {n' c':Nat} (hk:Kept (oneB K.mw) w w') (hm:MapK u8K w' K.mw (waitF s' q' n' c')) (ho:RecsAt w q' n' s'.own)
 (h1:s'.out=s.out) (h2:s'.glob=s.glob) (h3:s'.hasX=false → s'.own=[]) (h4:(∀ r ∈ s'.own,r.2.length≤1048576)∧s'.own.length≤1048576)
 (h5:∀ t,s'.name=some t → t.length≤1048576) (h6:∀ t,s'.link=some t → t.length≤1048576):Rd w0 w' K a s' mb v xs q' n' c' where
 bel:=h.bel.trans (hk.below h.bel.size (fun k hk => by rw [show k=K.mw from hk];exact h.base.2.2.2))
 blk:=h.blk.keptS hk h.ne.2.2.1
 src:=by
  obtain ⟨t,hs⟩:=h.src;exact ⟨t,hs.kept hk h.ne.2.2.2.2.1 (fun h0 y hy e => h.sp h0 y hy (.inr (.inr (.inl e)))) (fun h0 y hy e => h.sq h0 y hy (.inr (.inr (.inl e))))⟩
 off:=h.off
 st:=by
  rw [h2];refine h.st.kept hk (fun k hk e => ?_)
  rcases hk with rfl | hk
  ·exact h.ne.2.2.2.2.2 e
  ·exact (h.neB k hk).2.2.2.1 e
 map:=hm
 own:=recsAt_kept ho hk (fun h0 y hy e => recs_off_map h.map ho h0 hy e)
 own0:=h3
 row:=ownsRow_kept h.row hk (fun k hk e => (h.neV k hk).2.2.2.1 e)
 out:=by rw [h1];exact h.out
 bodies:=fun x hx => (h.bodies x hx).kept hk (fun h0 y hy e => (h.apart x hx h0 y hy).1 (.inr (.inr (.inl e))))
 apart:=h.apart
 sp:=h.sp
 sq:=h.sq
 ne:=h.ne
 neB:=h.neB
 neV:=h.neV
 base:=h.base
 many:=by rw [h1];exact h.many
 gl:=by rw [h2];exact h.gl
 ol:=h4
 nl:=h5
 ll:=h6
theorem Rd.globs (h:Rd w0 w K a s mb v xs q n c) {rs:RecL} {B:Nat} (hst:St w' K.gs (some B) (moreF (lastD s.glob) rs)) (hk:Kept (stB K.gs mb) w w') (hB:mb=some B ∨ w.heap.size≤B) (hl:∀ r ∈ rs,r.2.length≤1048576) :
 Rd w0 w' K a { s with glob:=s.glob++rs } (some B) v xs q n c:=by
 have hsz:=h.bel.size
 have oth:∀ k,k < w.heap.size → ¬ Ot K mb v k → ¬ Ot K (some B) v k:=fun k hlt hn e => by
  rcases e with e | e | e | e | e
  ·exact hn (.inl e)
  ·exact hn (.inr (.inl e))
  ·exact hn (.inr (.inr (.inl e)))
  ·rcases hB with hB | hB
   ·exact hn (.inr (.inr (.inr (.inl (hB.trans e)))))
   ·cases e;omega
  ·exact hn (.inr (.inr (.inr (.inr e))))
 have fromOt:∀ k,stB K.gs mb k → Ot K mb v k:=fun k hk => by
  rcases hk with rfl | hk
  ·exact .inr (.inl rfl)
  ·exact .inr (.inr (.inr (.inl hk)))
 obtain ⟨t,hs⟩:=h.src
 have hbt:∀ k,stB K.gs mb k → w0.heap.size≤k:=fun k hk => by
  rcases hk with rfl | hk
  ·exact h.base.2.2.1
  ·exact (h.neB k hk).2.2.2.2
 have hr:¬ stB K.gs mb K.r:=fun e => by
  rcases e with e | e
  ·exact h.ne.2.1 e
  ·exact (h.neB _ e).1 rfl
 have hg:¬ stB K.gs mb K.g:=fun e => by
  rcases e with e | e
  ·exact h.ne.2.2.2.1 e
  ·exact (h.neB _ e).2.1 rfl
 have hmw:¬ stB K.gs mb K.mw:=fun e => by
  rcases e with e | e
  ·exact h.ne.2.2.2.2.2 e.symm
  ·exact (h.neB _ e).2.2.2.1 rfl
 have hv:∀ k,v.ownBlock=some k → ¬ stB K.gs mb k:=fun k hk e => by
  rcases e with e | e
  ·exact (h.neV k hk).2.2.1 e
  ·exact (h.neV k hk).2.2.2.2 e
 exact {
  bel:=h.bel.trans (hk.below h.bel.size hbt)
  blk:=h.blk.keptS hk hr
  src:=⟨t,hs.kept hk hg (fun h0 y hy e => h.sp h0 y hy (fromOt _ e)) (fun h0 y hy e => h.sq h0 y hy (fromOt _ e))⟩
  off:=h.off
  st:=by rw [← lastD_more];exact hst
  map:=h.map.kept hk hmw
  own:=recsAt_kept h.own hk h.own_off_st
  own0:=h.own0
  row:=ownsRow_kept h.row hk hv
  out:=h.out
  bodies:=fun x hx => (h.bodies x hx).kept hk (fun h0 y hy e => (h.apart x hx h0 y hy).1 (fromOt _ e))
  apart:=fun x hx h0 y hy => ⟨oth _ (bat_lt (h.bodies x hx).bat h0 hy) (h.apart x hx h0 y hy).1,(h.apart x hx h0 y hy).2⟩
  sp:=fun h0 y hy => oth _ (bat_lt hs.bat h0 hy) (h.sp h0 y hy)
  sq:=fun h0 y hy => oth _ (iat_lt hs.iat h0 hy) (h.sq h0 y hy)
  ne:=h.ne
  neB:=fun b hb => by
   cases hb
   rcases hB with hB | hB
   ·exact h.neB B hB
   ·have h1:=h.blk.lt
    have h2:=hs.lt;have h3:=h.st.lt;have h4:=h.map.lt;exact ⟨by omega,by omega,by omega,by omega,by omega⟩
  neV:=fun b hb => by
   obtain ⟨h1,h2,h3,h4,h5⟩:=h.neV b hb;have hlt:=(h.row.lt b hb).2;refine ⟨h1,h2,h3,h4,fun e => ?_⟩
   rcases hB with hB | hB
   ·exact h5 (hB.trans e)
   ·cases e;omega
  base:=h.base
  many:=h.many
  gl:=fun r hr => by
   rcases List.mem_append.1 hr with hr | hr
   ·exact h.gl r hr
   ·exact hl r hr
  ol:=h.ol
  nl:=h.nl
  ll:=h.ll }
theorem Rd.map_added (h:Rd w0 w K a s mb v xs q n c) {v':Value} (hg:w.grownBy w' v.ownBlock):MapK u8K (w'.setCell ⟨K.r,3,none⟩ v') K.mw (waitF s q n c):=
 (h.map.kept ((Kept.refl _ w).grown hg (fun k hk => .inr hk):Kept (fun k => v.ownBlock=some k) w w') (fun e => (h.neV _ e).2.2.2.1 rfl)).kept ((Kept.refl (oneB K.r) w').setCell (a:=⟨K.r,3,none⟩) (.inr rfl) v') h.ne.2.2.1.symm
theorem Rd.added (h:Rd w0 w K a s mb v xs q n c) {v':Value} {y:MP} (hrow:w'.ownsRow w0.heap.size 26 8 v' (xs++[y]).length (flatM (xs++[y]))) (hg:w.grownBy w' v.ownBlock) (hnew:NewOr w v v')
 (hy:BodyAt w y) (hya:0 < y.m.body.length → ∀ z,y.p=some z → ¬ Ot K mb v z.block∧z.block≠K.g) (hm:s.out.length < 4096) {w2:World}
 (hmap:MapK u8K w2 K.mw (fun _ => none)) (hk3:Kept (oneB K.mw) (w'.setCell ⟨K.r,3,none⟩ v') w2) :
 Rd w0 w2 K a { s with out:=s.out++[y.m],own:=[],name:=none,link:=none,hasX:=false } mb v' (xs++[y]) none 0 0:=by
 have hk1:Kept (fun k => v.ownBlock=some k) w w':=(Kept.refl _ w).grown hg (fun k hk => .inr hk)
 have hk2:Kept (oneB K.r) w' (w'.setCell ⟨K.r,3,none⟩ v'):=(Kept.refl (oneB K.r) w').setCell (a:=⟨K.r,3,none⟩) (.inr rfl) v';have hk23:Kept (fun k => k=K.r ∨ k=K.mw) w' w2:=(hk2.mono (fun k hk => .inl hk)).trans (hk3.mono (fun k hk => .inr hk))
 have hk:Kept (fun k => v.ownBlock=some k ∨ k=K.r ∨ k=K.mw) w w2:=(hk1.mono (fun k hk => .inl hk)).trans (hk23.mono (fun k hk => .inr hk))
 have hvne:∀ k,v'.ownBlock=some k → (v.ownBlock=some k ∨ w.heap.size≤k):=hnew
 have fromT:∀ k,(v.ownBlock=some k ∨ k=K.r ∨ k=K.mw) → Ot K mb v k:=fun k hk => by
  rcases hk with hk | rfl | rfl
  ·exact .inr (.inr (.inr (.inr hk)))
  ·exact .inl rfl
  ·exact .inr (.inr (.inl rfl))
 have oth:∀ k,k < w.heap.size → ¬ Ot K mb v k → ¬ Ot K mb v' k:=fun k hlt hn e => by
  rcases e with e | e | e | e | e
  ·exact hn (.inl e)
  ·exact hn (.inr (.inl e))
  ·exact hn (.inr (.inr (.inl e)))
  ·exact hn (.inr (.inr (.inr (.inl e))))
  ·rcases hvne k e with e' | e'
   ·exact hn (.inr (.inr (.inr (.inr e'))))
   ·omega
 obtain ⟨t,hs⟩:=h.src;have h1:=h.blk.lt;have h2:=hs.lt;have h3:=h.st.lt;have h4:=h.map.lt
 have nv':∀ b,v'.ownBlock=some b → b≠K.r∧b≠K.g∧b≠K.gs∧b≠K.mw∧mb≠some b:=fun b hb => by
  rcases hvne b hb with e | e
  ·exact h.neV b e
  ·exact ⟨by omega,by omega,by omega,by omega,fun hm => by have:=h.st.ltB hm;omega⟩
 have nT:∀ k,k≠K.r → k≠K.mw → (∀ b,v.ownBlock=some b → k≠b) → ¬ (v.ownBlock=some k ∨ k=K.r ∨ k=K.mw):=fun k hr hw hn e => by
  rcases e with e | e | e
  ·exact hn k e rfl
  ·exact hr e
  ·exact hw e
 exact {
  bel:=h.bel.trans (hk.below h.bel.size (fun k hk => by
   rcases hk with hk | rfl | rfl
   ·exact (h.row.lt k hk).1
   ·exact h.base.1
   ·exact h.base.2.2.2))
  blk:=((h.blk.keptS hk1 (fun e => (h.neV _ e).1 rfl)).set 3 v' (by decide:3 < 4)).keptS hk3 h.ne.2.2.1
  src:=⟨t,hs.kept hk (nT _ h.ne.1.symm h.ne.2.2.2.2.1 (fun b hb e => (h.neV b hb).2.1 e.symm)) (fun h0 y hy e => h.sp h0 y hy (fromT _ e)) (fun h0 y hy e => h.sq h0 y hy (fromT _ e))⟩
  off:=h.off
  st:=h.st.kept hk (fun k hk => by
   rcases hk with rfl | hk
   ·exact nT _ h.ne.2.1.symm h.ne.2.2.2.2.2 (fun b hb e => (h.neV b hb).2.2.1 e.symm)
   ·exact nT _ (h.neB k hk).1 (h.neB k hk).2.2.2.1 (fun b hb e => (h.neV b hb).2.2.2.2 (by rw [← e];exact hk)))
  map:=by
   have:waitF { s with out:=s.out++[y.m],own:=[],name:=none,link:=none,hasX:=false } none 0 0=fun _ => none:=by
    funext k
    unfold waitF;simp
   rw [this];exact hmap
  own:=⟨rfl,fun h => by omega⟩
  own0:=fun _ => rfl
  row:=ownsRow_kept hrow hk23 (fun k hk e => by
   rcases e with e | e
   ·exact (nv' k hk).1 e
   ·exact (nv' k hk).2.2.2.1 e)
  out:=by rw [List.map_append,h.out];rfl
  bodies:=fun x hx => by
   rcases List.mem_append.1 hx with hx | hx
   ·exact (h.bodies x hx).kept hk (fun h0 y hy e => (h.apart x hx h0 y hy).1 (fromT _ e))
   ·rw [List.mem_singleton] at hx
    subst hx;exact hy.kept hk (fun h0 z hz e => (hya h0 z hz).1 (fromT _ e))
  apart:=fun x hx h0 z hz => by
   rcases List.mem_append.1 hx with hx | hx
   ·exact ⟨oth _ (bat_lt (h.bodies x hx).bat h0 hz) (h.apart x hx h0 z hz).1,(h.apart x hx h0 z hz).2⟩
   ·rw [List.mem_singleton] at hx
    subst hx;exact ⟨oth _ (bat_lt hy.bat h0 hz) (hya h0 z hz).1,(hya h0 z hz).2⟩
  sp:=fun h0 y hy => oth _ (bat_lt hs.bat h0 hy) (h.sp h0 y hy)
  sq:=fun h0 y hy => oth _ (iat_lt hs.iat h0 hy) (h.sq h0 y hy)
  ne:=h.ne
  neB:=h.neB
  neV:=nv'
  base:=h.base
  many:=by show (s.out++[y.m]).length≤4096;rw [List.length_append,List.length_singleton];omega
  gl:=h.gl
  ol:=⟨fun r hr => by simp at hr,by simp⟩
  nl:=fun t ht => by cases ht
  ll:=fun t ht => by cases ht }
end
end Go.Proofs.YtnpkcneojilmkaaGreatDoor.Mem
end
