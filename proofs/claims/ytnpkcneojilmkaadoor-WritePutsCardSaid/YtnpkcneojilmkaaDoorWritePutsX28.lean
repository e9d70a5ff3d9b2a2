/- Texts of this seat, merged: what the proof reaches. -/
import Derived.RangeFuncNested
import Derived.RangeFuncBound
import Derived.RangeFuncCalls
import Derived.RangeFuncLeaves
import Derived.Shelf.Abstract
import Derived.Shelf.RegionOpen
import Derived.WalkKit
import Derived.OwnWalkIn
import Derived.TacticsInMore
import Derived.LoopNIn
import Derived.LoopIn
import Derived.Test.YtnpkcneojilmkaaDoorWritePutsX27
import Derived.Test.YtnpkcneojilmkaaDoorWritePutsX8
import Derived.Test.YtnpkcneojilmkaaDoorWritePutsX24
import Derived.Test.YtnpkcneojilmkaaDoorWritePutsX20
import Derived.Laws.ResultCell
import Derived.Deep.DeepCutAuto
import Derived.Test.YtnpkcneojilmkaaDoorWritePutsX18
import Derived.Test.YtnpkcneojilmkaaDoorWritePutsX10
import Derived.Test.YtnpkcneojilmkaaDoorWritePutsX23
import Derived.Test.YtnpkcneojilmkaaDoorWritePutsX11
section
namespace Go.Proofs.YtnpkcneojilmkaaDoor.Path
open Go.ChangeShapes Go.WideShapes Go.ChangeAt Go.RowKit Go.Shelf Base Byt Txt Go.Lib Num
set_option linter.unusedVariables false
set_option maxRecDepth 100000
attribute [local go_sem] Oper.semAt_some
theorem abides_drewN {β:Type} {B:Nat} {J:β → World → Prop} (h:AbidesFrom B J) {s:β} {w:World} (hs:J s w) (n:Nat):J s (w.drewN n):=
 match n with
 | 0 => hs
 | n+1 => h s (w.drewN n) _ none (abides_drewN h hs n) ⟨rfl,rfl,rfl,Nat.le_refl _,fun _ _ _ => rfl⟩ (fun r e => by cases e)
def leftL (m:Bool) (l:List UInt8):List (List UInt8):=if m then partsL l else []
theorem left_cut (l:List UInt8):leftL true l=(cutL l).1 :: leftL (cutL l).2.2 (cutL l).2.1:=by
 unfold leftL cutL;rw [if_pos rfl];obtain ⟨h1,h2⟩:=parts_cut l
 by_cases h:0≤Lib.indexByte l 47
 ·rw [if_pos h,h1 h]
  simp
 ·rw [if_neg h,h2 h]
  simp
theorem cut_less (l:List UInt8):(cutL l).2.1.length+(if (cutL l).2.2 then 1 else 0) < l.length+1:=by
 unfold cutL
 by_cases h:0≤Lib.indexByte l 47
 ·rw [if_pos h]
  obtain ⟨k,hk⟩:∃ k:Nat,Lib.indexByte l 47=k:=⟨(Lib.indexByte l 47).toNat,by omega⟩
  have hlt:=(List.getElem?_eq_some_iff.1 (Lib.indexByte_some hk).1).1;simp only [List.length_drop,hk,Int.toNat_natCast,if_true];omega
 ·rw [if_neg h]
  simp
def leftN (r m:Value):Nat:=(match r with | .string s => s.size | _ => 0)+(match m with | .bool true => 1 | _ => 0)
abbrev Part:={ x:List UInt8 // x.length≤1000000000000 }
theorem parts_len (l:List UInt8):∀ p ∈ partsL l,p.length≤l.length:=by
 induction l with
 | nil => simp [partsL]
 | cons b l ih =>
   unfold partsL
   by_cases hb:b=47
   ·rw [if_pos hb]
    intro p hp;rcases List.mem_cons.1 hp with rfl | hp
    ·simp
    ·have:=ih p hp;rw [List.length_cons];omega
   ·rw [if_neg hb]
    cases hq:partsL l with
    | nil => exact absurd hq (parts_ne l)
    | cons q qs =>
      rw [hq] at ih;intro p hp;rcases List.mem_cons.1 hp with rfl | hp
      ·have:=ih q (by simp)
       simp only [List.headD_cons,List.length_cons];omega
      ·have:=ih p (List.mem_cons_of_mem _ hp);rw [List.length_cons];omega
theorem some_parts (s:List UInt8) (hm:s.length≤1000000000000):∃ ps:List Part,ps.map (·.1)=partsL s:=by
 refine ⟨(partsL s).attachWith _ (fun p hp => Nat.le_trans (parts_len s p hp) hm),?_⟩
 simp
set_option maxHeartbeats 1000000 in
theorem seq_in (F:Fence) (n:Nat) (hF:F=Fence.wide) (hn:1≤n) (l Bn:Nat) (s:List UInt8) (hm:s.length≤1000000000000) (ps:List Part) (hps:ps.map (·.1)=partsL s) (J Jx:List Part → World → Prop) (B:Nat) (hJ:AbidesFrom B J)
 (hY:∀ pre x W,J pre W → pre.length < ps.length → YieldAt F (n - 1) Tryd.prog l #[.string (str x.1)] W fun e W' =>
  (e=.returned (.bool true)∧J (pre++[x]) W'∧True) ∨ (e=.returned (.bool false)∧Jx (pre++[x]) W'))
 (W:World) (hBn:W.cell? ⟨Bn,0,none⟩=some (.string (str s))) (h0:J [] W) :
 CallsIn F n Tryd.prog 74 #[.func (.yield l) #[] #[],.pointer (some ⟨Bn,0,none⟩)] W fun e W' => (∃ v,e=.returned v) ∧
  ((∃ ys,ys=ps∧J ys W') ∨ (∃ pre,pre <+: ps∧Jx pre W')):=by
 subst hF;refine callsIn_of_wp Tryd.func74 rfl trivial ?_ rfl;simp only [Tryd.ntmps74,List.size_toArray,List.length_cons,List.length_nil,Nat.reduceAdd,Nat.reduceSub,Array.replicate_succ,Array.replicate_zero,List.push_toArray,List.append_toArray,List.nil_append,List.cons_append]
 gi_wp2
 gi_loopw [3,4] (fun r m wr => ∃ (pre tl:List Part) (rest:List UInt8) (b:Bool),r=.string (str rest)∧m=.bool b∧Hid (ps=pre++tl∧tl.map (·.1)=leftL b rest)∧rest.length≤1000000000000∧J pre wr)
  (fun r m wr => leftN r m)
 case atStart => exact ⟨[],ps,s,true,rfl,rfl,⟨rfl,hps⟩,hm,h0⟩
 case round =>
  obtain ⟨pre,tl,rest,b,rfl,rfl,hx,hr,hJs⟩:=hrel
  cases b with
  | false =>
    gi_wp2
    go_end0
    exact ⟨⟨_,rfl⟩,.inl ⟨pre,by obtain ⟨h1,h2⟩:=hx.out;obtain rfl:tl=[]:=List.map_eq_nil_iff.1 h2;simp [h1],hJs⟩⟩
  | true =>
    obtain ⟨hx1,hx2⟩:=hx.out;rw [left_cut] at hx2
    obtain ⟨x,tl',htl⟩:∃ x tl',tl=x :: tl':=by
     cases tl with
     | nil => simp at hx2
     | cons x tl' => exact ⟨x,tl',rfl⟩
    rw [htl,List.map_cons,List.cons.injEq] at hx2;have hc:=cutSlash_any rest wr hr;have hl:=cut_less rest;have hsz:(str rest).size=rest.length:=str_size rest;obtain ⟨p,hp⟩:∃ p:List UInt8,p=x.1:=⟨_,rfl⟩;obtain ⟨q,hq⟩:∃ q,q=(cutL rest).2.1:=⟨_,rfl⟩;obtain ⟨b,hb⟩:∃ b,b=(cutL rest).2.2:=⟨_,rfl⟩;rw [← hx2.1,← hp,← hq,← hb] at hc;rw [← hq,← hb] at hx2;rw [htl] at hx1;rw [← hq,← hb] at hl;have HX:=Lib.hid (And.intro hx1 hx2.2);have HL:=Lib.hid hl;have HS:=Lib.hid hsz
    have hgo0:∀ k,YieldAt Fence.wide (n - 1) Tryd.prog l #[.string (str x.1)] (wr.drewN k) fun e W' =>
     (e=.returned (.bool true)∧J (pre++[x]) W'∧True) ∨ (e=.returned (.bool false)∧Jx (pre++[x]) W'):=
     fun k => hY pre x _ (abides_drewN hJ hJs k) (by rw [hx1];simp)
    rw [← hp] at hgo0;clear hp hq hb hx1 hx2 hl hsz hx htl hY
    gi_wp2_with (refine ⟨trivial,?_⟩;gi_at_call 75;refine (callsIn_wide.2 hc).mono ?_;rintro e w' ⟨rfl,k,rfl⟩;obtain ⟨fn,tmps,assign,body,hy,hR⟩:=hgo0 k)
    refine hR.mono ?_
    rintro e W3 (⟨rfl,hJ3,-⟩ | ⟨rfl,hJx3⟩)
    ·gi_wp2
     go_roundw
     case rel => exact ⟨pre++[x],tl',q,b,rfl,rfl,⟨by rw [HX.out.1];simp,HX.out.2⟩,by have:=HL.out;omega,hJ3⟩
     case measure =>
      have h1:=HL.out;have h2:=HS.out;have h3:(str q).size=q.length:=str_size q
      cases b<;>simp [leftN,h2,h3] at h1 ⊢<;>omega
    ·gi_wp2
     refine bodyPost_ret (results_none rfl _ _ _) rfl ?_
     exact ⟨⟨_,rfl⟩,.inr ⟨pre++[x],by rw [HX.out.1];exact ⟨tl',by simp⟩,hJx3⟩⟩
theorem seq_stops (n:Nat) (hn:1≤n) (Bn:Nat) (s:List UInt8) (hm:s.length≤1000000000000) (ps:List Part) (hps:ps.map (·.1)=partsL s) (w:World) (hBn:Bn < w.heap.size) (hc:w.cell? ⟨Bn,0,none⟩=some (.string (str s))) :
 SeqStopsK Fence.wide n Tryd.prog 74 #[.pointer (some ⟨Bn,0,none⟩)] (fun x:Part => #[Value.string (str x.1)]) (fun _ _ => True) (fun ys => ys=ps) (fun pre => pre <+: ps) ps.length w:=fun l J Jx W hW hJ _ hY h0 =>
 seq_in Fence.wide n rfl hn l Bn s hm ps hps J Jx _ hJ hY W ((hW.cell (p:=⟨Bn,0,none⟩) hBn).trans hc) h0
theorem parts_any (s:List UInt8) (w:World) :
 Calls Tryd.prog 57 #[.string (str s)] w fun e w' => e=.returned (.func (.func 74) #[] #[.pointer (some ⟨w.heap.size,0,none⟩)])∧w'=w.alloc (.cells #[.string (str s)] 9):=by
 go_enter Tryd.func57,Tryd.ntmps57
 go_wp2
 go_ret
 exact ⟨rfl,rfl⟩
end Go.Proofs.YtnpkcneojilmkaaDoor.Path
end
section
namespace Go.Proofs.YtnpkcneojilmkaaDoor.Path
open Go.ChangeShapes Go.WideShapes Go.ChangeAt Go.RowKit Go.Shelf Base Byt Txt Go.Lib Num
set_option linter.unusedVariables false
set_option maxRecDepth 100000
attribute [local go_sem] Oper.semAt_some
theorem goP_app (a b:List (List UInt8)):∀ c,goP c (a++b)=(goP c a).bind fun d => goP d b:=by
 induction a with
 | nil => intro c;rfl
 | cons p a ih =>
   intro c;rw [List.cons_append,goP,goP]
   split
   ·rfl
   ·exact ih _
theorem goP_snoc (pre:List (List UInt8)) (p c d:List UInt8) (h:goP c pre=some d):goP c (pre++[p])=if p=[46,46] ∨ 200 < (joinP d p).length then none else some (joinP d p):=by
 rw [goP_app,h,Option.bind_some];unfold goP
 split<;>rfl
theorem goP_le (ps:List (List UInt8)):∀ c d,c.length≤200 → goP c ps=some d → d.length≤200:=by
 induction ps with
 | nil => intro c d hc h;cases h;exact hc
 | cons p ps ih =>
   intro c d hc h;unfold goP at h
   split at h
   ·cases h
   ·next hn => exact ih _ _ (by rcases Nat.lt_or_ge 200 (joinP c p).length with h' | h';exact absurd (.inr h') hn;exact h') h
theorem goP_none (a b:List (List UInt8)) (h:goP [] a=none):goP [] (a++b)=none:=by rw [goP_app,h];rfl
theorem head_slash_iff (l:List UInt8):Lib.hasPrefix l [47]=decide (l.head? = some 47):=by
 cases l with
 | nil => simp [Lib.hasPrefix]
 | cons b t =>
   by_cases h:b=47
   ·subst h;simp [Lib.hasPrefix]
   ·have h':¬ (47:UInt8)=b:=fun e => h e.symm
    simp [Lib.hasPrefix,List.isPrefixOf,h,h']
def Cell (W:World) (b:Nat) (v:Value):Prop:=W.cell? ⟨b,0,none⟩=some v∧W.frozen? ⟨b,0,none⟩=false
theorem Cell.kept {W W':World} {b:Nat} {v:Value} (h:Cell W b v) {row:Option Nat} (hg:W.grownBy W' row) (hr:∀ r,row=some r → ∃ o:Obj,W.heap[r]? = some o∧o.isCells=false):Cell W' b v:=
 ⟨cell_kept h.1 hg hr,(frozen_kept h.1 hg hr).trans h.2⟩
theorem Cell.below {W W':World} {b n:Nat} {v:Value} (h:Cell W b v) (hb:Below n W W') (hn:b < n):Cell W' b v:=
 ⟨(hb.cell (p:=⟨b,0,none⟩) hn).trans h.1,(hb.frozen (p:=⟨b,0,none⟩) hn).trans h.2⟩
theorem Cell.new (W:World) (v:Value) (t:TypeId):Cell (W.alloc (.cells #[v] t)) W.heap.size v:=by
 have h:=World.alloc_heap_new W (.cells #[v] t);unfold Cell World.cell? World.frozen?;rw [h];exact ⟨rfl,rfl⟩
theorem Cell.alloc {W:World} {b:Nat} {v:Value} (h:Cell W b v) (o:Obj):Cell (W.alloc o) b v:=h.kept (World.grownBy_alloc W o none) (fun r e => by cases e)
theorem Cell.set {W:World} {b:Nat} {v:Value} (h:Cell W b v) (u:Value):Cell (W.setCell ⟨b,0,none⟩ u) b u:=
 ⟨World.cell?_setCell_same' _ _ _ (by rw [h.1];rfl),by rw [World.frozen?_setCell];exact h.2⟩
theorem Cell.other {W:World} {b b':Nat} {v:Value} (h:Cell W b v) (u:Value) (hne:b'≠b):Cell (W.setCell ⟨b',0,none⟩ u) b v:=
 ⟨(World.cell?_setCell_other _ _ _ _ (fun e => hne (congrArg Addr.block e))).trans h.1,by rw [World.frozen?_setCell];exact h.2⟩
def restD (P:Int) (l:List UInt8):List UInt8 × Int:=
 if l.head? = some 47 then ([],P) else match goP [] (partsL l) with | none => ([],P) | some a => if a=[] then ([],P) else (a,0)
theorem clean_rest (T P:Int) (l:List UInt8):cleanD T P l=if textD l=false then ([],T) else restD P l:=clean_goP T P l
theorem ret_cells (W:World) (tm:Array Value) (b0 b1:Nat) (s:ByteArray) (e:Int) (h0:tm[2]? = some (.pointer (some ⟨b0,0,none⟩))) (h1:tm[3]? = some (.pointer (some ⟨b1,0,none⟩)))
 (c0:Cell W b0 (.string s)) (c1:Cell W b1 (.int .i64 e)):(results Tryd.f41 tm).run Tryd.prog W=.ok (.tuple #[.string s,.int .i64 e]) W:=by
 obtain ⟨c00,c01⟩:=c0;obtain ⟨c10,c11⟩:=c1;simp [results,Tryd.f41,go_sem,h0,h1,c00,c10]
set_option maxHeartbeats 2000000 in
theorem clean_any (l:List UInt8) (w:World) (hm:l.length≤1000000000000) (hT:Tabs w) :
 Calls Tryd.prog 41 #[.string (str l)] w fun e w' => e=.returned (.tuple #[.string (str (cleanD 9 6 l).1),.int .i64 (cleanD 9 6 l).2])∧Below w.heap.size w w':=by
 have hR:=fun w hT => right_any l w hm hT
 have hP:=fun w => Any.strings_HasPrefix Tryd.laysPrefix (str l) ⟨#[47]⟩ w
 rw [clean_rest];simp only [str_data,head_slash_iff] at hP;refine (callsIn_wide (n:=3)).1 ?_
 refine callsIn_of_wp_marks Tryd.func41 rfl trivial ?_ rfl;simp only [Tryd.ntmps41,List.size_toArray,List.length_cons,List.length_nil,Nat.reduceAdd,Nat.reduceSub,Array.replicate_succ,Array.replicate_zero,List.push_toArray,List.append_toArray,List.nil_append,List.cons_append];have hB0:Below w.heap.size w ((w.alloc (.cells #[.string ⟨#[]⟩] 9)).alloc (.cells #[.int .i64 0] 30)):=((Below.refl _ _).alloc (Nat.le_refl _) _).alloc (by simp) _
 have hT0:=hT.below hB0;have c0:Cell ((w.alloc (.cells #[.string ⟨#[]⟩] 9)).alloc (.cells #[.int .i64 0] 30)) w.heap.size (.string ⟨#[]⟩):=(Cell.new w _ _).alloc _
 have c1:Cell ((w.alloc (.cells #[.string ⟨#[]⟩] 9)).alloc (.cells #[.int .i64 0] 30)) (w.heap.size+1) (.int .i64 0):=by
  have:=Cell.new (w.alloc (.cells #[.string ⟨#[]⟩] 9)) (.int .i64 0) 30
  rwa [World.size_alloc] at this
 have HC:=Lib.hid (And.intro c0 c1);have HB:=Lib.hid hB0;clear c0 c1 hB0 hT
 cases ht:textD l with
 | false =>
   rw [if_pos rfl];have hR':=hR _ hT0;rw [ht] at hR'
   gi_wp2_with fail
   refine ⟨trivial,(callsIn_wide.2 hR').mono ?_⟩;rintro e w1 ⟨rfl,hb⟩;simp only [World.size_alloc] at hb;obtain ⟨d00,d01⟩:=HC.out.1.below hb (by omega)
   obtain ⟨d10,d11⟩:=HC.out.2.below hb (by omega)
   have HB1:=Lib.hid (HB.out.trans (hb.mono (by omega)))
   clear hb hR' hT0 hR hP
   gi_wp2_with fail
   refine ⟨_,ret_cells _ _ w.heap.size (w.heap.size+1) ⟨#[]⟩ 9 rfl rfl (((show Cell w1 w.heap.size _ from ⟨d00,d01⟩).set _).other _ (by omega)) (((show Cell w1 (w.heap.size+1) _ from ⟨d10,d11⟩).other _ (by omega)).set _),rfl,?_⟩
   exact (HB1.out.setCell (p:=⟨w.heap.size,0,none⟩) (Nat.le_refl _) _).setCell (p:=⟨w.heap.size+1,0,none⟩) (by simp) _
 | true =>
   rw [if_neg (by simp)]
   have hR':=hR _ hT0;rw [ht] at hR';obtain ⟨G,hG⟩:∃ G,restD 6 l=G:=⟨_,rfl⟩;rw [hG];unfold restD at hG;have HG:=Lib.hid hG;clear hG
   gi_wp2_with fail
   refine ⟨trivial,(callsIn_wide.2 hR').mono ?_⟩;rintro e w1 ⟨rfl,hb⟩;simp only [World.size_alloc] at hb;have d0:=HC.out.1.below hb (by omega)
   have d1:=HC.out.2.below hb (by omega)
   have HS1:Hid (w.heap.size+2≤w1.heap.size):=Lib.hid (by have:=hb.size;rw [World.size_alloc,World.size_alloc] at this;omega)
   have HB1:=Lib.hid (HB.out.trans (hb.mono (by omega)))
   clear hb hR' hT0 hR;have hP':=hP w1;clear hP
   by_cases h0:l.head? = some 47
   ·obtain rfl:([],6)=G:=by rw [← HG.out,if_pos h0]
    rw [decide_eq_true h0] at hP';clear h0;obtain ⟨d00,d01⟩:=d0;obtain ⟨d10,d11⟩:=d1
    gi_wp2_with fail
    refine ⟨trivial,(callsIn_wide.2 hP').mono ?_⟩;rintro e w' ⟨rfl,rfl⟩
    gi_wp2_with fail
    refine ⟨_,ret_cells _ _ w.heap.size (w.heap.size+1) ⟨#[]⟩ 6 rfl rfl (((show Cell w' w.heap.size _ from ⟨d00,d01⟩).set _).other _ (by omega)) (((show Cell w' (w.heap.size+1) _ from ⟨d10,d11⟩).other _ (by omega)).set _),rfl,?_⟩
    exact (HB1.out.setCell (p:=⟨w.heap.size,0,none⟩) (Nat.le_refl _) _).setCell (p:=⟨w.heap.size+1,0,none⟩) (by simp) _
   ·have hG:=HG.out
    rw [if_neg h0] at hG;rw [decide_eq_false h0] at hP';have HG2:=Lib.hid hG;clear h0 HG hG;have HD:=Lib.hid (And.intro d0 d1);clear d0 d1
    gi_wp2_with fail
    refine ⟨trivial,(callsIn_wide.2 hP').mono ?_⟩;rintro e w' ⟨rfl,rfl⟩
    gi_wp2_with fail
    have HB2:Hid (Below w.heap.size w ((w'.alloc (.cells #[.string ⟨#[]⟩] 9)).alloc (.cells #[.string (str l)] 9))):=
     Lib.hid ((HB1.out.alloc (by have:=HS1.out;omega) _).alloc (by have:=HS1.out;rw [World.size_alloc];omega) _)
    have HX:=Lib.hid (((Cell.new w' (.string ⟨#[]⟩) 9)).alloc (.cells #[.string (str l)] 9));have HY:=Lib.hid (And.intro ((HD.out.1.alloc (.cells #[.string ⟨#[]⟩] 9)).alloc (.cells #[.string (str l)] 9)) ((HD.out.2.alloc (.cells #[.string ⟨#[]⟩] 9)).alloc (.cells #[.string (str l)] 9)));have HZ:=Lib.hid (Cell.new (w'.alloc (.cells #[.string ⟨#[]⟩] 9)) (.string (str l)) 9);clear HB1 HD HC;obtain ⟨ps,hps⟩:=some_parts l hm;refine ⟨trivial,(callsIn_wide.2 (parts_any l _)).mono ?_⟩;rintro e w2 ⟨rfl,rfl⟩
    gi_wp2_with fail
    obtain ⟨n1,hn1⟩:∃ n1,w'.heap.size=n1:=⟨_,rfl⟩;obtain ⟨W0,hW0⟩:∃ W0,(w'.alloc (.cells #[.string ⟨#[]⟩] 9)).alloc (.cells #[.string (str l)] 9)=W0:=⟨_,rfl⟩;have HN:Hid (W0.heap.size=n1+2∧w.heap.size+2≤n1):=Lib.hid (by rw [← hW0,World.size_alloc,World.size_alloc];exact ⟨by omega,by have:=HS1.out;omega⟩)
    rw [hW0] at HB2 HX HY HZ ⊢;rw [World.size_alloc] at HZ;rw [hn1] at HX HZ ⊢;clear hW0 HS1 hn1 HB
    refine wpIn_rangeFunc_ownF rfl (by omega) (gf:=74) (lb:=#[.pointer (some ⟨n1+1,0,none⟩)]) rfl trivial (enters_of Tryd.func74 (by kernel_rfl) rfl)
     (seq_stops _ (by omega) (n1+1) l hm ps hps W0 (by rw [HN.out.1];omega) HZ.out.1) (fun _ _ => trivial) (fun _ _ _ _ _ _ _ _ => trivial) (Below.refl _ _) (fun _ => rfl)
     (fun pre W => (∃ c,goP [] (pre.map (·.1))=some c∧Cell W n1 (.string (str c))∧Cell W w.heap.size (.string ⟨#[]⟩)∧Cell W (w.heap.size+1) (.int .i64 0))∧Below w.heap.size w W)
     (fun c pre W => (c=.ret∧goP [] (pre.map (·.1))=none∧Cell W w.heap.size (.string ⟨#[]⟩)∧Cell W (w.heap.size+1) (.int .i64 6))∧Below w.heap.size w W)
     (OwnFrom.and (Own.from (fun s A B row hs hg hr => by obtain ⟨c,h1,h2,h3,h4⟩:=hs;exact ⟨c,h1,h2.kept hg hr,h3.kept hg hr,h4.kept hg hr⟩) _) (ownFrom_below (Nat.le_refl _) (by rw [HN.out.1];have:=HN.out.2;omega)))
     (fun c => OwnFrom.and (Own.from (fun s A B row hs hg hr => ⟨hs.1,hs.2.1,hs.2.2.1.kept hg hr,hs.2.2.2.kept hg hr⟩) _) (ownFrom_below (Nat.le_refl _) (by rw [HN.out.1];have:=HN.out.2;omega)))
     ⟨⟨[],rfl,HX.out,HY.out.1,HY.out.2⟩,HB2.out⟩
     (fun x => { tmps:=#[.string (str l),undef,.pointer (some ⟨w.heap.size,0,none⟩),.pointer (some ⟨w.heap.size+1,0,none⟩),.pointer (some ⟨n1,0,none⟩),.string (str x.1),.string (str l),.bool true,.bool false,.string (str l),.bool false,.string (str l),.func (.func 74) #[] #[.pointer (some ⟨n1+1,0,none⟩)],.string (str x.1),undef,undef,undef,undef,undef,undef,undef,undef,undef,undef,undef,undef,undef],defers:=[] }) ?assign ?body ?done ?stop
    case assign =>
     intro l x W K hK
     gi_wp2
     exact hK
    case body =>
     rintro l' pre x W ⟨⟨c,hg,c0,c1,c2⟩,hB⟩ _;have hc:=goP_le _ _ _ (by simp) hg
     have hj:=join_any c x.1 W (by have:=x.2;omega)
     have hs:=goP_snoc _ x.1 _ _ hg;obtain ⟨d,hd⟩:∃ d,joinP c x.1=d:=⟨_,rfl⟩;rw [hd] at hj hs;have e0:=(c0.set (.string (str d)));have e1:=(c1.other (.string (str d)) (show n1≠_ by have:=HN.out.2;omega))
     have e2:=(c2.other (.string (str d)) (show n1≠_ by have:=HN.out.2;omega))
     have hB1:=hB.setCell (p:=⟨n1,0,none⟩) (show w.heap.size≤n1 by have:=HN.out.2;omega) (.string (str d))
     have HE:=Lib.hid (And.intro e1 (And.intro e2 hB1));have hsz:((str d).size:Int)=d.length:=by rw [str_size]
     obtain ⟨f0,f1⟩:=c0;have HP:=Lib.hid hd
     by_cases hx:x.1=[46,46]
     ·have b1:((str x.1).toList == [46,46])=true:=by rw [str_is];simpa using hx
      rw [if_pos (.inl hx)] at hs;have hs':goP [] ((pre++[x]).map (·.1))=none:=by rw [List.map_append];exact hs
      have HS':=Lib.hid hs';clear hs hs' hx hd hg hc e1 e2 c1 c2 hB hB1 hsz
      gi_wp2_with fail
      refine ⟨trivial,(CallsIn.inRound l' (callsIn_wide.2 hj)).mono ?_⟩;rintro e w3 ⟨rfl,rfl⟩;obtain ⟨e00,e01⟩:=e0;obtain ⟨g00,g01⟩:=HE.out.1;obtain ⟨g10,g11⟩:=HE.out.2.1
      gi_wp2
      exact ⟨((KeepsOthers.setCell _ _ _).trans (KeepsOthers.setCell _ _ _)).trans (KeepsOthers.setCell _ _ _),⟨rfl,HS'.out,(HE.out.1.set _).other _ (by omega),(HE.out.2.1.other _ (by omega)).set _⟩,(HE.out.2.2.setCell (p:=⟨w.heap.size,0,none⟩) (Nat.le_refl _) _).setCell (p:=⟨w.heap.size+1,0,none⟩) (by simp) _⟩
     ·have b1:((str x.1).toList == [46,46])=false:=by rw [str_is];simpa using hx
      obtain ⟨n,hn⟩:∃ n,(str d).size=n:=⟨_,rfl⟩
      by_cases h2:200 < d.length
      ·have b2:(200:Int) < (n:Int):=by omega
       rw [if_pos (.inr h2)] at hs;have hs':goP [] ((pre++[x]).map (·.1))=none:=by rw [List.map_append];exact hs
       have HS':=Lib.hid hs';clear hs hs' hx hd hg hc e1 e2 c1 c2 hB hB1 hsz h2
       gi_wp2_with fail
       refine ⟨trivial,(CallsIn.inRound l' (callsIn_wide.2 hj)).mono ?_⟩;rintro e w3 ⟨rfl,rfl⟩;obtain ⟨e00,e01⟩:=e0;obtain ⟨g00,g01⟩:=HE.out.1;obtain ⟨g10,g11⟩:=HE.out.2.1
       gi_wp2
       exact ⟨((KeepsOthers.setCell _ _ _).trans (KeepsOthers.setCell _ _ _)).trans (KeepsOthers.setCell _ _ _),⟨rfl,HS'.out,(HE.out.1.set _).other _ (by omega),(HE.out.2.1.other _ (by omega)).set _⟩,(HE.out.2.2.setCell (p:=⟨w.heap.size,0,none⟩) (Nat.le_refl _) _).setCell (p:=⟨w.heap.size+1,0,none⟩) (by simp) _⟩
      ·have b2:¬ (200:Int) < (n:Int):=by omega
       rw [if_neg (fun h => h.elim hx h2)] at hs
       have hs':goP [] ((pre++[x]).map (·.1))=some d:=by rw [List.map_append];exact hs
       have HS':=Lib.hid hs';clear hs hs' hx hd hg hc e1 e2 c1 c2 hB hB1 hsz h2
       gi_wp2_with fail
       refine ⟨trivial,(CallsIn.inRound l' (callsIn_wide.2 hj)).mono ?_⟩;rintro e w3 ⟨rfl,rfl⟩;obtain ⟨e00,e01⟩:=id e0;obtain ⟨g00,g01⟩:=HE.out.1;obtain ⟨g10,g11⟩:=HE.out.2.1
       gi_wp2
       exact ⟨KeepsOthers.setCell _ _ _,trivial,⟨d,HS'.out,e0,HE.out.1,HE.out.2.1⟩,HE.out.2.2⟩
    case done =>
     rintro D ys W hD rfl ⟨⟨c,hg,c0,c1,c2⟩,hB⟩ hK;rw [hps] at hg;have hG:=HG2.out;rw [hg] at hG;simp only at hG;have hDw:w.heap.size≤D:=by have:=HN.out;omega
     obtain ⟨f0,f1⟩:=id c0;obtain ⟨g00,g01⟩:=id c1;obtain ⟨g10,g11⟩:=id c2;have HE:=Lib.hid (And.intro c1 (And.intro c2 hB));have HK:=Lib.hid hK
     by_cases hc:c=[]
     ·have b1:(str c).toList.isEmpty=true:=by rw [str_empty];simpa using hc
      obtain rfl:([],6)=G:=by rw [← hG,if_pos hc]
      clear hG hc hg HG2 c0 c1 c2 hB hK
      gi_wp2
      have hK':=((KeepsOthers.setCell W ⟨w.heap.size,0,none⟩ (.string ⟨#[]⟩)).trans (KeepsOthers.setCell _ ⟨w.heap.size+1,0,none⟩ (.int .i64 6))).same D _ HK.out rfl;refine ⟨by simp,.inl ⟨_,_,rfl,run_takeDeferred hK',?_⟩⟩
      have k0:=((HE.out.1.set (.string ⟨#[]⟩)).other (.int .i64 6) (show w.heap.size+1≠_ by omega)).kept (grownBy_putObj' _ D (.deferred none)) (fun r e => by cases e;exact ⟨_,hK',rfl⟩)
      have k1:=((HE.out.2.1.other (.string ⟨#[]⟩) (show w.heap.size≠_ by omega)).set (.int .i64 6)).kept (grownBy_putObj' _ D (.deferred none)) (fun r e => by cases e;exact ⟨_,hK',rfl⟩)
      exact ⟨_,ret_cells _ _ w.heap.size (w.heap.size+1) ⟨#[]⟩ 6 rfl rfl k0 k1,rfl,((HE.out.2.2.setCell (p:=⟨w.heap.size,0,none⟩) (Nat.le_refl _) _).setCell (p:=⟨w.heap.size+1,0,none⟩) (by simp) _).trans (belowK_b (w:=w) (Nat.le_refl _) _ D _ _ hDw hK' rfl rfl)⟩
     ·have b1:(str c).toList.isEmpty=false:=by rw [str_empty];simpa using hc
      obtain rfl:(c,0)=G:=by rw [← hG,if_neg hc]
      clear hG hc hg HG2 c0 c1 c2 hB hK
      gi_wp2
      have hK':=((KeepsOthers.setCell W ⟨w.heap.size,0,none⟩ (.string (str c))).trans (KeepsOthers.setCell _ ⟨w.heap.size+1,0,none⟩ (.int .i64 0))).same D _ HK.out rfl;refine ⟨by simp,.inl ⟨_,_,rfl,run_takeDeferred hK',?_⟩⟩
      have k0:=((HE.out.1.set (.string (str c))).other (.int .i64 0) (show w.heap.size+1≠_ by omega)).kept (grownBy_putObj' _ D (.deferred none)) (fun r e => by cases e;exact ⟨_,hK',rfl⟩)
      have k1:=((HE.out.2.1.other (.string (str c)) (show w.heap.size≠_ by omega)).set (.int .i64 0)).kept (grownBy_putObj' _ D (.deferred none)) (fun r e => by cases e;exact ⟨_,hK',rfl⟩)
      exact ⟨_,ret_cells _ _ w.heap.size (w.heap.size+1) (str c) 0 rfl rfl k0 k1,rfl,((HE.out.2.2.setCell (p:=⟨w.heap.size,0,none⟩) (Nat.le_refl _) _).setCell (p:=⟨w.heap.size+1,0,none⟩) (by simp) _).trans (belowK_b (w:=w) (Nat.le_refl _) _ D _ _ hDw hK' rfl rfl)⟩
    case stop =>
     rintro D c pre W hD hpre ⟨⟨rfl,hn,c1,c2⟩,hB⟩ hK;have hG:=HG2.out;obtain ⟨tl,htl⟩:=hpre;rw [← hps,← htl,List.map_append,goP_none _ _ hn] at hG;obtain rfl:([],6)=G:=hG;have hDw:w.heap.size≤D:=by have:=HN.out;omega
     have HE:=Lib.hid (And.intro c1 (And.intro c2 hB));have HK:=Lib.hid hK;clear htl hn HG2 c1 c2 hB hK
     gi_wp2
     have hK':=HK.out;refine ⟨by simp,.inl ⟨_,_,rfl,run_takeDeferred hK',?_⟩⟩
     have k0:=HE.out.1.kept (grownBy_putObj' _ D (.deferred none)) (fun r e => by cases e;exact ⟨_,hK',rfl⟩)
     have k1:=HE.out.2.1.kept (grownBy_putObj' _ D (.deferred none)) (fun r e => by cases e;exact ⟨_,hK',rfl⟩)
     exact ⟨_,ret_cells _ _ w.heap.size (w.heap.size+1) ⟨#[]⟩ 6 rfl rfl k0 k1,rfl,HE.out.2.2.trans (belowK_b (w:=w) (Nat.le_refl _) _ D _ _ hDw hK' rfl rfl)⟩
end Go.Proofs.YtnpkcneojilmkaaDoor.Path
end
section
namespace Go.Proofs.YtnpkcneojilmkaaDoor.Mem
open Go.ChangeShapes Go.WideShapes Go.ChangeAt Go.RowKit Base Byt Txt Bk Hp Head Num Path Go.Lib
set_option linter.unusedVariables false
set_option maxRecDepth 100000
theorem u8_lit (k:UInt8) (n:Nat) (hn:n < 256):((k.toNat:Int)=(n:Int)) ↔ k=UInt8.ofNat n:=by
 constructor
 ·intro h
  apply UInt8.toNat.inj;rw [UInt8.toNat_ofNat'];omega
 ·rintro rfl
  rw [UInt8.toNat_ofNat'];omega
theorem known_any (k:UInt8) (w:World) :
 Calls Tryd.prog 28 #[.int .u8 (k.toNat:Int)] w fun e w' => e=.returned (.bool (knownD k))∧w=w':=by
 have hb:=k.toNat_lt;have e0:(k.toNat:Int)=48 ↔ k=48:=u8_lit k 48 (by decide)
 have e1:(k.toNat:Int)=49 ↔ k=49:=u8_lit k 49 (by decide)
 have e2:(k.toNat:Int)=50 ↔ k=50:=u8_lit k 50 (by decide)
 have e3:(k.toNat:Int)=53 ↔ k=53:=u8_lit k 53 (by decide)
 obtain ⟨r,hr⟩:∃ r,knownD k=r:=⟨_,rfl⟩;rw [hr];unfold knownD at hr;obtain ⟨x,hx⟩:∃ x:Int,x=(k.toNat:Int):=⟨_,rfl⟩;rw [← hx] at e0 e1 e2 e3 ⊢
 by_cases h0:x=48
 ·obtain rfl:r=true:=by rw [← hr];simp [e0.1 h0]
  clear e0 e1 e2 e3 hr hx hb;subst h0
  go_enter Tryd.func28,Tryd.ntmps28
  go_wp2
  go_ret
  exact ⟨rfl,rfl⟩
 ·by_cases h1:x=49
  ·obtain rfl:r=true:=by rw [← hr];simp [e1.1 h1]
   clear e0 e1 e2 e3 hr hx hb;subst h1
   go_enter Tryd.func28,Tryd.ntmps28
   go_wp2
   go_ret
   exact ⟨rfl,rfl⟩
  ·by_cases h2:x=50
   ·obtain rfl:r=true:=by rw [← hr];simp [e2.1 h2]
    clear e0 e1 e2 e3 hr hx hb;subst h2
    go_enter Tryd.func28,Tryd.ntmps28
    go_wp2
    go_ret
    exact ⟨rfl,rfl⟩
   ·by_cases h3:x=53
    ·obtain rfl:r=true:=by rw [← hr];simp [e3.1 h3]
     clear e0 e1 e2 e3 hr hx hb;subst h3
     go_enter Tryd.func28,Tryd.ntmps28
     go_wp2
     go_ret
     exact ⟨rfl,rfl⟩
    ·obtain rfl:r=false:=by
      rw [← hr];have a0:¬ k=48:=fun h => h0 (e0.2 h)
      have a1:¬ k=49:=fun h => h1 (e1.2 h)
      have a2:¬ k=50:=fun h => h2 (e2.2 h)
      have a3:¬ k=53:=fun h => h3 (e3.2 h)
      simp [a0,a1,a2,a3]
     clear e0 e1 e2 e3 hr hx hb
     go_enter Tryd.func28,Tryd.ntmps28
     go_wp2
     go_ret
     exact ⟨rfl,rfl⟩
theorem size_any (k:UInt8) (n:Int) (w:World) :
 Calls Tryd.prog 44 #[.int .u8 (k.toNat:Int),.int .i64 n] w fun e w' => e=.returned (.int .i64 (sizeD k n))∧w=w':=by
 have hb:=k.toNat_lt;have e0:(k.toNat:Int)=48 ↔ k=48:=u8_lit k 48 (by decide)
 obtain ⟨r,hr⟩:∃ r,sizeD k n=r:=⟨_,rfl⟩;rw [hr];unfold sizeD at hr;obtain ⟨x,hx⟩:∃ x:Int,x=(k.toNat:Int):=⟨_,rfl⟩;rw [← hx] at e0 ⊢
 by_cases h0:x=48
 ·have hk:k=48:=e0.1 h0
  rw [if_neg (by simp [hk])] at hr
  by_cases h1:1048576 < n
  ·rw [if_pos h1] at hr
   subst hr;clear e0 hx hb;subst h0
   go_enter Tryd.func44,Tryd.ntmps44
   go_wp2
   go_ret
   exact ⟨rfl,rfl⟩
  ·rw [if_neg h1] at hr
   subst hr;clear e0 hx hb;subst h0
   go_enter Tryd.func44,Tryd.ntmps44
   go_wp2
   go_ret
   exact ⟨rfl,rfl⟩
 ·have hk:¬ k=48:=fun h => h0 (e0.2 h)
  by_cases hn:n=0
  ·subst hn
   rw [if_neg (by simp),if_neg (by omega)] at hr
   subst hr;clear e0 hx hb
   go_enter Tryd.func44,Tryd.ntmps44
   go_wp2
   go_ret
   exact ⟨rfl,rfl⟩
  ·rw [if_pos ⟨hk,hn⟩] at hr
   subst hr;clear e0 hx hb;have b0:(x != 48)=true:=by simpa using h0
   have bn:(n != 0)=true:=by simpa using hn
   go_enter Tryd.func44,Tryd.ntmps44
   go_wp2
   go_ret
   exact ⟨rfl,rfl⟩
theorem inBounds_any (a b c d:Int) (w:World) :
 Calls Tryd.prog 42 #[.agg #[.int .i64 a,.int .i64 b,.int .i64 c,.int .i64 d]] w fun e w' => e=.returned (.bool (metaOk a b c d))∧Below w.heap.size w w':=by
 obtain ⟨r,hr⟩:∃ r,metaOk a b c d=r:=⟨_,rfl⟩;rw [hr];unfold metaOk at hr;have hb:=(Below.refl w.heap.size w).alloc (Nat.le_refl _) (.cells #[.int .i64 a,.int .i64 b,.int .i64 c,.int .i64 d] 23);have HB:=Lib.hid hb;clear hb
 by_cases h1:0≤a∧a≤4095
 ·by_cases h2:0≤b∧b≤2147483647
  ·by_cases h3:0≤c∧c≤2147483647
   ·by_cases h4:0≤d∧d≤1099511627776
    ·obtain rfl:r=true:=by rw [← hr];simp only [decide_eq_true_eq];omega
     clear hr
     go_enter Tryd.func42,Tryd.ntmps42
     go_wp2_with (go_at_call 59;refine (in_yes _ _ _ _ (by omega) (by omega)).mono ?_;rintro e w' ⟨rfl,rfl⟩)
     go_ret
     exact ⟨rfl,HB.out⟩
    ·obtain rfl:r=false:=by rw [← hr];simp only [decide_eq_false_iff_not];omega
     clear hr
     go_enter Tryd.func42,Tryd.ntmps42
     go_wp2_with (go_at_call 59;first | (refine (in_yes _ _ _ _ (by omega) (by omega)).mono ?_;rintro e w' ⟨rfl,rfl⟩) | (refine (in_no _ _ _ _ (by omega)).mono ?_;rintro e w' ⟨rfl,rfl⟩))
     go_ret
     exact ⟨rfl,HB.out⟩
   ·obtain rfl:r=false:=by rw [← hr];simp only [decide_eq_false_iff_not];omega
    clear hr
    go_enter Tryd.func42,Tryd.ntmps42
    go_wp2_with (go_at_call 59;first | (refine (in_yes _ _ _ _ (by omega) (by omega)).mono ?_;rintro e w' ⟨rfl,rfl⟩) | (refine (in_no _ _ _ _ (by omega)).mono ?_;rintro e w' ⟨rfl,rfl⟩))
    go_ret
    exact ⟨rfl,HB.out⟩
  ·obtain rfl:r=false:=by rw [← hr];simp only [decide_eq_false_iff_not];omega
   clear hr
   go_enter Tryd.func42,Tryd.ntmps42
   go_wp2_with (go_at_call 59;first | (refine (in_yes _ _ _ _ (by omega) (by omega)).mono ?_;rintro e w' ⟨rfl,rfl⟩) | (refine (in_no _ _ _ _ (by omega)).mono ?_;rintro e w' ⟨rfl,rfl⟩))
   go_ret
   exact ⟨rfl,HB.out⟩
 ·obtain rfl:r=false:=by rw [← hr];simp only [decide_eq_false_iff_not];omega
  clear hr
  go_enter Tryd.func42,Tryd.ntmps42
  go_wp2_with (go_at_call 59;first | (refine (in_yes _ _ _ _ (by omega) (by omega)).mono ?_;rintro e w' ⟨rfl,rfl⟩) | (refine (in_no _ _ _ _ (by omega)).mono ?_;rintro e w' ⟨rfl,rfl⟩))
  go_ret
  exact ⟨rfl,HB.out⟩
theorem goal_any (k:UInt8) (l:List UInt8) (w:World) (hm:l.length≤1000000000000) (hT:Tabs w) :
 Calls Tryd.prog 43 #[.int .u8 (k.toNat:Int),.string (str l)] w fun e w' => e=.returned (.tuple #[.string (str (goalD k l).1),.int .i64 (goalD k l).2])∧Below w.heap.size w w':=by
 have hC:=clean_any l w hm hT;have hG:=target_any l w hm hT;have e1:(k.toNat:Int)=49 ↔ k=49:=u8_lit k 49 (by decide)
 have e2:(k.toNat:Int)=50 ↔ k=50:=u8_lit k 50 (by decide)
 unfold goalD;obtain ⟨x,hx⟩:∃ x:Int,x=(k.toNat:Int):=⟨_,rfl⟩;rw [← hx] at e1 e2 ⊢
 by_cases h1:x=49
 ·rw [if_pos (e1.1 h1)]
  clear e1 e2 hx;subst h1
  go_enter Tryd.func43,Tryd.ntmps43
  go_wp2_with (go_at_call 41;refine hC.mono ?_;rintro e w1 ⟨rfl,hb⟩)
  go_ret2
  exact ⟨rfl,hb⟩
 ·rw [if_neg (fun h => h1 (e1.2 h))]
  by_cases h2:x=50
  ·rw [if_pos (e2.1 h2)]
   clear e1 e2 hx;subst h2
   go_enter Tryd.func43,Tryd.ntmps43
   go_wp2_with (go_at_call 60;refine hG.mono ?_;rintro e w1 ⟨rfl,hb⟩)
   go_ret2
   exact ⟨rfl,hb⟩
  ·rw [if_neg (fun h => h2 (e2.2 h))]
   clear e1 e2 hx
   go_enter Tryd.func43,Tryd.ntmps43
   go_wp2
   go_ret2
   exact ⟨rfl,Below.refl _ _⟩
end Go.Proofs.YtnpkcneojilmkaaDoor.Mem
end
section
namespace Go.Proofs.YtnpkcneojilmkaaDoor.Mem
open Go.ChangeShapes Go.WideShapes Go.ChangeAt Go.RowKit Base Byt Txt Bk Hp Head Num Path Go.Lib
set_option linter.unusedVariables false
set_option maxRecDepth 100000
theorem load_mem (w:World) (g:Nat) (a b:ByteArray) (k m u i t:Int) (p:Option Addr) (n c:Nat) (h:Blk w g 26 #[.string a,.string b,.int .u8 k,.int .i64 m,.int .i64 u,.int .i64 i,.int .i64 t,.slice p n c]) :
 (loadVar 26 ⟨g,0,none⟩).run Tryd.prog w=.ok (.agg #[.string a,.string b,.int .u8 k,.int .i64 m,.int .i64 u,.int .i64 i,.int .i64 t,.slice p n c]) w:=by
 have c0:=h.cell 0;have c1:=h.cell 1;have c2:=h.cell 2;have c3:=h.cell 3;have c4:=h.cell 4;have c5:=h.cell 5;have c6:=h.cell 6;have c7:=h.cell 7;clear h
 go_simp
theorem ret_memB {fn:Func} (hf:fn.results=#[.cell 2 26,.tmp 3]) (tmps:Array Value) (w:World) (g:Nat) (v:Value) (ht:tmps.getD 2 undef=.pointer (some ⟨g,0,none⟩)) (hv:tmps.getD 3 undef=v)
 (m:MemV) (p:Option Addr) (c:Nat) (hb:Blk w g 26 (memC m p c)):(results fn tmps).run Tryd.prog w=.ok (.tuple #[.agg (memC m p c),v]) w:=by
 rw [results_cell_tmp hf,ht,hv];have hl:=load_mem w g _ _ _ _ _ _ _ _ _ _ hb;simp only [asAddr,Sem.run_pure,hl,Result.andThen];rfl
theorem blk8 {w:World} {g:Nat} {m:MemV} {p:Option Addr} {c:Nat} (hb:Blk w g 26 (memC m p c)) (a0 a1 a2 a3 a4 a5 a6 a7:Value) :
 Blk ((((((((w.setCell ⟨g,0,none⟩ a0).setCell ⟨g,1,none⟩ a1).setCell ⟨g,2,none⟩ a2).setCell ⟨g,3,none⟩ a3).setCell ⟨g,4,none⟩ a4).setCell ⟨g,5,none⟩ a5).setCell ⟨g,6,none⟩ a6).setCell ⟨g,7,none⟩ a7) g 26 #[a0,a1,a2,a3,a4,a5,a6,a7]:=
 (((((((hb.set 0 a0 (by show 0 < 8;decide)).set 1 a1 (by show 1 < 8;decide)).set 2 a2 (by show 2 < 8;decide)).set 3 a3 (by show 3 < 8;decide)).set 4 a4 (by show 4 < 8;decide)).set 5 a5 (by show 5 < 8;decide)).set 6 a6 (by show 6 < 8;decide)).set 7 a7 (by show 7 < 8;decide)
theorem below8 {w w':World} {g:Nat} (hk:Below w.heap.size w w') (hg:w.heap.size≤g) (a0 a1 a2 a3 a4 a5 a6 a7:Value) :
 Below w.heap.size w ((((((((w'.setCell ⟨g,0,none⟩ a0).setCell ⟨g,1,none⟩ a1).setCell ⟨g,2,none⟩ a2).setCell ⟨g,3,none⟩ a3).setCell ⟨g,4,none⟩ a4).setCell ⟨g,5,none⟩ a5).setCell ⟨g,6,none⟩ a6).setCell ⟨g,7,none⟩ a7):=
 ((((((((hk.setCell (p:=⟨g,0,none⟩) hg a0).setCell (p:=⟨g,1,none⟩) hg a1).setCell (p:=⟨g,2,none⟩) hg a2).setCell (p:=⟨g,3,none⟩) hg a3).setCell (p:=⟨g,4,none⟩) hg a4).setCell (p:=⟨g,5,none⟩) hg a5).setCell (p:=⟨g,6,none⟩) hg a6).setCell (p:=⟨g,7,none⟩) hg a7)
def FMid (w wi:World) (h:HeadV):Prop:=Below w.heap.size w wi∧Blk wi w.heap.size 47 (headC h)∧Blk wi (w.heap.size+1) 26 (memC noM none 0)
theorem FMid.below {w wi wj:World} {h:HeadV} (hm:FMid w wi h) (hb:Below wi.heap.size wi wj):FMid w wj h:=
 ⟨hm.1.trans (hb.mono hm.1.size),hm.2.1.below hb hm.2.1.lt,hm.2.2.below hb hm.2.2.lt⟩
set_option maxHeartbeats 4000000 in
theorem fromHead_any (h:HeadV) (w:World) (h1:h.name.length≤1000000000000) (h2:h.link.length≤1000000000000) (hT:Tabs w) :
 Calls Tryd.prog 29 #[.agg (headC h)] w fun e w' => e=.returned (.tuple #[.agg (memC (fromD h).1 none 0),.int .i64 (fromD h).2])∧Below w.heap.size w w':=by
 obtain ⟨⟨cp,ce⟩,hc⟩:∃ x,cleanD 9 6 h.name=x:=⟨_,rfl⟩;obtain ⟨⟨gp,ge⟩,hg⟩:∃ x,goalD h.kind h.link=x:=⟨_,rfl⟩;obtain ⟨mo,hmo⟩:∃ x,metaOk h.mode h.uid h.gid h.time=x:=⟨_,rfl⟩;obtain ⟨sz,hsz⟩:∃ x,sizeD h.kind h.size=x:=⟨_,rfl⟩
 have CC:Hid (∀ wi,Below w.heap.size w wi → Calls Tryd.prog 41 #[.string (str h.name)] wi fun e w' => e=.returned (.tuple #[.string (str cp),.int .i64 ce])∧Below wi.heap.size wi w'):=
  Lib.hid (fun wi hb => by have:=clean_any h.name wi h1 (hT.below hb);rwa [hc] at this)
 have CM:Hid (∀ wi,Calls Tryd.prog 42 #[.agg #[.int .i64 h.mode,.int .i64 h.uid,.int .i64 h.gid,.int .i64 h.time]] wi fun e w' => e=.returned (.bool mo)∧Below wi.heap.size wi w'):=
  Lib.hid (fun wi => by have:=inBounds_any h.mode h.uid h.gid h.time wi;rwa [hmo] at this)
 have CG:Hid (∀ wi,Below w.heap.size w wi → Calls Tryd.prog 43 #[.int .u8 (h.kind.toNat:Int),.string (str h.link)] wi fun e w' => e=.returned (.tuple #[.string (str gp),.int .i64 ge])∧Below wi.heap.size wi w'):=
  Lib.hid (fun wi hb => by have:=goal_any h.kind h.link wi h2 (hT.below hb);rwa [hg] at this)
 have CS:Hid (∀ wi,Calls Tryd.prog 44 #[.int .u8 (h.kind.toNat:Int),.int .i64 h.size] wi fun e w' => e=.returned (.int .i64 sz)∧wi=w'):=
  Lib.hid (fun wi => by have:=size_any h.kind h.size wi;rwa [hsz] at this)
 obtain ⟨U,hU⟩:∃ U,fromD h=U:=⟨_,rfl⟩;rw [hU]
 have HE:Hid (U=if ce≠0 then (noM,ce) else if mo=false then (noM,4) else if ge≠0 then (noM,ge) else if sz≠0 then (noM,sz) else (⟨cp,gp,h.kind,h.mode,h.uid,h.gid,h.time,[]⟩,0)):=
  Lib.hid (by rw [← hU];unfold fromD;rw [hc,hg,hmo,hsz])
 clear h1 h2 hT hU hc hg hmo hsz
 have HM0:Hid (FMid w ((w.alloc (.cells (headC h) 47)).alloc (.cells (memC noM none 0) 26)) h):=by
  have b1:=Blk.new (w.alloc (.cells (headC h) 47)) 26 (memC noM none 0);rw [World.size_alloc] at b1;exact Lib.hid ⟨((Below.refl _ w).alloc (Nat.le_refl _) _).alloc (by simp) _,(Blk.new w 47 (headC h)).alloc _,b1⟩
 obtain ⟨kn,hkn⟩:∃ kn:Int,(h.kind.toNat:Int)=kn:=⟨_,rfl⟩;have HKN:=Lib.hid hkn;simp only [headC,hkn] at HM0 ⊢;rw [hkn] at CG CS;clear hkn
 by_cases a1:ce=0
 ·subst a1
  cases mo with
  | false =>
    have E:Hid (U=(noM,4)):=Lib.hid (by rw [HE.out];simp)
    go_enter Tryd.func29,Tryd.ntmps29
    go_wp2_with fail
    refine (CC.out _ HM0.out.1).mono ?_
    rintro e w1 ⟨rfl,hb⟩;have HM1:=Lib.hid (HM0.out.below hb);clear hb HM0;have b1:=HM1.out.2.1;have x3:=b1.cell 3;have x4:=b1.cell 4;have x5:=b1.cell 5;have x6:=b1.cell 6;simp only [headC,List.getElem?_toArray,List.getElem?_cons_zero,List.getElem?_cons_succ] at x3 x4 x5 x6;clear b1
    go_wp2_with fail
    refine (CM.out _).mono ?_
    rintro e w2 ⟨rfl,hb⟩;have HM2:=Lib.hid (HM1.out.below hb);clear hb HM1 x3 x4 x5 x6;have b2:=HM2.out.2.2;have r0:=b2.cell 0;have f0:=b2.frozen 0;have r1:=b2.cell 1;have f1:=b2.frozen 1;have r2:=b2.cell 2;have f2:=b2.frozen 2;have r3:=b2.cell 3;have f3:=b2.frozen 3;have r4:=b2.cell 4;have f4:=b2.frozen 4;have r5:=b2.cell 5;have f5:=b2.frozen 5;have r6:=b2.cell 6;have f6:=b2.frozen 6;have r7:=b2.cell 7;have f7:=b2.frozen 7;simp only [memC,noM,List.getElem?_toArray,List.getElem?_cons_zero,List.getElem?_cons_succ] at r0 r1 r2 r3 r4 r5 r6 r7;clear b2
    go_wp2
    refine bodyPost_ret (ret_memB rfl _ _ (w.heap.size+1) _ rfl rfl noM none 0 (blk8 HM2.out.2.2 _ _ _ _ _ _ _ _)) rfl ?_
    exact ⟨by rw [E.out];rfl,below8 HM2.out.1 (by omega) _ _ _ _ _ _ _ _⟩
  | true =>
    by_cases a2:ge=0
    ·subst a2
     by_cases a3:sz=0
     ·subst a3
      have E:Hid (U=(⟨cp,gp,h.kind,h.mode,h.uid,h.gid,h.time,[]⟩,0)):=Lib.hid (by rw [HE.out];simp)
      go_enter Tryd.func29,Tryd.ntmps29
      go_wp2_with fail
      refine (CC.out _ HM0.out.1).mono ?_
      rintro e w1 ⟨rfl,hb⟩;have HM1:=Lib.hid (HM0.out.below hb);clear hb HM0;have b1:=HM1.out.2.1;have x3:=b1.cell 3;have x4:=b1.cell 4;have x5:=b1.cell 5;have x6:=b1.cell 6;simp only [headC,List.getElem?_toArray,List.getElem?_cons_zero,List.getElem?_cons_succ] at x3 x4 x5 x6;clear b1
      go_wp2_with fail
      refine (CM.out _).mono ?_
      rintro e w2 ⟨rfl,hb⟩;have HM2:=Lib.hid (HM1.out.below hb);clear hb HM1 x3 x4 x5 x6;have b1:=HM2.out.2.1;have x1:=b1.cell 1;have x2:=b1.cell 2;simp only [headC,List.getElem?_toArray,List.getElem?_cons_zero,List.getElem?_cons_succ,HKN.out] at x1 x2;clear b1
      go_wp2_with fail
      refine (CG.out _ HM2.out.1).mono ?_
      rintro e w3 ⟨rfl,hb⟩;have HM3:=Lib.hid (HM2.out.below hb);clear hb HM2 x1 x2;have b1:=HM3.out.2.1;have x2:=b1.cell 2;have x7:=b1.cell 7;simp only [headC,List.getElem?_toArray,List.getElem?_cons_zero,List.getElem?_cons_succ,HKN.out] at x2 x7;clear b1
      go_wp2_with fail
      refine (CS.out _).mono ?_
      rintro e w4 ⟨rfl,rfl⟩;clear x2 x7;have b1:=HM3.out.2.1;have x2:=b1.cell 2;have x3:=b1.cell 3;have x4:=b1.cell 4;have x5:=b1.cell 5;have x6:=b1.cell 6;simp only [headC,List.getElem?_toArray,List.getElem?_cons_zero,List.getElem?_cons_succ,HKN.out] at x2 x3 x4 x5 x6;clear b1;have hkk:=HKN.out;subst hkk;have b2:=HM3.out.2.2;have r0:=b2.cell 0;have f0:=b2.frozen 0;have r1:=b2.cell 1;have f1:=b2.frozen 1;have r2:=b2.cell 2;have f2:=b2.frozen 2;have r3:=b2.cell 3;have f3:=b2.frozen 3;have r4:=b2.cell 4;have f4:=b2.frozen 4;have r5:=b2.cell 5;have f5:=b2.frozen 5
      have r6:=b2.cell 6;have f6:=b2.frozen 6;have r7:=b2.cell 7;have f7:=b2.frozen 7;simp only [memC,noM,List.getElem?_toArray,List.getElem?_cons_zero,List.getElem?_cons_succ] at r0 r1 r2 r3 r4 r5 r6 r7;clear b2
      go_wp2
      refine bodyPost_ret (ret_memB rfl _ _ (w.heap.size+1) _ rfl rfl ⟨cp,gp,h.kind,h.mode,h.uid,h.gid,h.time,[]⟩ none 0 (blk8 HM3.out.2.2 _ _ _ _ _ _ _ _)) rfl ?_
      exact ⟨by rw [E.out];rfl,below8 HM3.out.1 (by omega) _ _ _ _ _ _ _ _⟩
     ·have E:Hid (U=(noM,sz)):=Lib.hid (by rw [HE.out];simp [a3])
      go_enter Tryd.func29,Tryd.ntmps29
      go_wp2_with fail
      refine (CC.out _ HM0.out.1).mono ?_
      rintro e w1 ⟨rfl,hb⟩;have HM1:=Lib.hid (HM0.out.below hb);clear hb HM0;have b1:=HM1.out.2.1;have x3:=b1.cell 3;have x4:=b1.cell 4;have x5:=b1.cell 5;have x6:=b1.cell 6;simp only [headC,List.getElem?_toArray,List.getElem?_cons_zero,List.getElem?_cons_succ] at x3 x4 x5 x6;clear b1
      go_wp2_with fail
      refine (CM.out _).mono ?_
      rintro e w2 ⟨rfl,hb⟩;have HM2:=Lib.hid (HM1.out.below hb);clear hb HM1 x3 x4 x5 x6;have b1:=HM2.out.2.1;have x1:=b1.cell 1;have x2:=b1.cell 2;simp only [headC,List.getElem?_toArray,List.getElem?_cons_zero,List.getElem?_cons_succ,HKN.out] at x1 x2;clear b1
      go_wp2_with fail
      refine (CG.out _ HM2.out.1).mono ?_
      rintro e w3 ⟨rfl,hb⟩;have HM3:=Lib.hid (HM2.out.below hb);clear hb HM2 x1 x2;have b1:=HM3.out.2.1;have x2:=b1.cell 2;have x7:=b1.cell 7;simp only [headC,List.getElem?_toArray,List.getElem?_cons_zero,List.getElem?_cons_succ,HKN.out] at x2 x7;clear b1
      go_wp2_with fail
      refine (CS.out _).mono ?_
      rintro e w4 ⟨rfl,rfl⟩;clear x2 x7;have b2:=HM3.out.2.2;have r0:=b2.cell 0;have f0:=b2.frozen 0;have r1:=b2.cell 1;have f1:=b2.frozen 1;have r2:=b2.cell 2;have f2:=b2.frozen 2;have r3:=b2.cell 3;have f3:=b2.frozen 3;have r4:=b2.cell 4;have f4:=b2.frozen 4;have r5:=b2.cell 5;have f5:=b2.frozen 5;have r6:=b2.cell 6;have f6:=b2.frozen 6;have r7:=b2.cell 7;have f7:=b2.frozen 7;simp only [memC,noM,List.getElem?_toArray,List.getElem?_cons_zero,List.getElem?_cons_succ] at r0 r1 r2 r3 r4 r5 r6 r7;clear b2
      go_wp2
      refine bodyPost_ret (ret_memB rfl _ _ (w.heap.size+1) _ rfl rfl noM none 0 (blk8 HM3.out.2.2 _ _ _ _ _ _ _ _)) rfl ?_
      exact ⟨by rw [E.out];rfl,below8 HM3.out.1 (by omega) _ _ _ _ _ _ _ _⟩
    ·have E:Hid (U=(noM,ge)):=Lib.hid (by rw [HE.out];simp [a2])
     go_enter Tryd.func29,Tryd.ntmps29
     go_wp2_with fail
     refine (CC.out _ HM0.out.1).mono ?_
     rintro e w1 ⟨rfl,hb⟩;have HM1:=Lib.hid (HM0.out.below hb);clear hb HM0;have b1:=HM1.out.2.1;have x3:=b1.cell 3;have x4:=b1.cell 4;have x5:=b1.cell 5;have x6:=b1.cell 6;simp only [headC,List.getElem?_toArray,List.getElem?_cons_zero,List.getElem?_cons_succ] at x3 x4 x5 x6;clear b1
     go_wp2_with fail
     refine (CM.out _).mono ?_
     rintro e w2 ⟨rfl,hb⟩;have HM2:=Lib.hid (HM1.out.below hb);clear hb HM1 x3 x4 x5 x6;have b1:=HM2.out.2.1;have x1:=b1.cell 1;have x2:=b1.cell 2;simp only [headC,List.getElem?_toArray,List.getElem?_cons_zero,List.getElem?_cons_succ,HKN.out] at x1 x2;clear b1
     go_wp2_with fail
     refine (CG.out _ HM2.out.1).mono ?_
     rintro e w3 ⟨rfl,hb⟩;have HM3:=Lib.hid (HM2.out.below hb);clear hb HM2 x1 x2;have b2:=HM3.out.2.2;have r0:=b2.cell 0;have f0:=b2.frozen 0;have r1:=b2.cell 1;have f1:=b2.frozen 1;have r2:=b2.cell 2;have f2:=b2.frozen 2;have r3:=b2.cell 3;have f3:=b2.frozen 3;have r4:=b2.cell 4;have f4:=b2.frozen 4;have r5:=b2.cell 5;have f5:=b2.frozen 5;have r6:=b2.cell 6;have f6:=b2.frozen 6;have r7:=b2.cell 7;have f7:=b2.frozen 7;simp only [memC,noM,List.getElem?_toArray,List.getElem?_cons_zero,List.getElem?_cons_succ] at r0 r1 r2 r3 r4 r5 r6 r7;clear b2
     go_wp2
     refine bodyPost_ret (ret_memB rfl _ _ (w.heap.size+1) _ rfl rfl noM none 0 (blk8 HM3.out.2.2 _ _ _ _ _ _ _ _)) rfl ?_
     exact ⟨by rw [E.out];rfl,below8 HM3.out.1 (by omega) _ _ _ _ _ _ _ _⟩
 ·have E:Hid (U=(noM,ce)):=Lib.hid (by rw [HE.out];simp [a1])
  go_enter Tryd.func29,Tryd.ntmps29
  go_wp2_with fail
  refine (CC.out _ HM0.out.1).mono ?_
  rintro e w1 ⟨rfl,hb⟩;have HM1:=Lib.hid (HM0.out.below hb);clear hb HM0;have b2:=HM1.out.2.2;have r0:=b2.cell 0;have f0:=b2.frozen 0;have r1:=b2.cell 1;have f1:=b2.frozen 1;have r2:=b2.cell 2;have f2:=b2.frozen 2;have r3:=b2.cell 3;have f3:=b2.frozen 3;have r4:=b2.cell 4;have f4:=b2.frozen 4;have r5:=b2.cell 5;have f5:=b2.frozen 5;have r6:=b2.cell 6;have f6:=b2.frozen 6;have r7:=b2.cell 7;have f7:=b2.frozen 7;simp only [memC,noM,List.getElem?_toArray,List.getElem?_cons_zero,List.getElem?_cons_succ] at r0 r1 r2 r3 r4 r5 r6 r7;clear b2
  go_wp2
  refine bodyPost_ret (ret_memB rfl _ _ (w.heap.size+1) _ rfl rfl noM none 0 (blk8 HM1.out.2.2 _ _ _ _ _ _ _ _)) rfl ?_
  exact ⟨by rw [E.out];rfl,below8 HM1.out.1 (by omega) _ _ _ _ _ _ _ _⟩
theorem fromD_body (h:HeadV):(fromD h).1.body=[]:=by
 unfold fromD
 split
 ·rfl
 ·split
  ·rfl
  ·split
   ·rfl
   ·split<;>rfl
end Go.Proofs.YtnpkcneojilmkaaDoor.Mem
end
section
namespace Go.Proofs.YtnpkcneojilmkaaDoor.Mem
open Go.ChangeShapes Go.WideShapes Go.ChangeAt Go.RowKit Base Byt Txt Bk Hp Head Num Path Go.Lib
set_option linter.unusedVariables false
set_option maxRecDepth 100000
theorem rmeta_any (a b c d:Int) (w:World) :
 Calls Tryd.prog 17 #[.agg #[.int .i64 a,.int .i64 b,.int .i64 c,.int .i64 d]] w fun e w' => e=.returned (.bool (metaOk a b c d))∧Below w.heap.size w w':=by
 obtain ⟨r,hr⟩:∃ r,metaOk a b c d=r:=⟨_,rfl⟩;rw [hr];unfold metaOk at hr;have HB:=Lib.hid ((Below.refl w.heap.size w).alloc (Nat.le_refl _) (.cells #[.int .i64 a,.int .i64 b,.int .i64 c,.int .i64 d] 23))
 by_cases h0:0≤a
 ·by_cases h1:a≤4095
  ·by_cases h2:0≤b
   ·by_cases h3:b < 2147483648
    ·by_cases h4:0≤c
     ·by_cases h5:c < 2147483648
      ·by_cases h6:0≤d
       ·by_cases h7:d≤1099511627776
        ·obtain rfl:r=true:=by rw [← hr];simp only [decide_eq_true_eq];omega
         clear hr
         go_enter Tryd.func17,Tryd.ntmps17
         go_wp2
         go_ret
         exact ⟨rfl,HB.out⟩
        ·obtain rfl:r=false:=by rw [← hr];simp only [decide_eq_false_iff_not];omega
         have hd:decide (d≤1099511627776)=false:=by simpa using h7
         clear hr
         go_enter Tryd.func17,Tryd.ntmps17
         go_wp2
         go_ret
         exact ⟨rfl,HB.out⟩
       ·obtain rfl:r=false:=by rw [← hr];simp only [decide_eq_false_iff_not];omega
        have hd:decide (0≤d)=false:=by simpa using h6
        clear hr
        go_enter Tryd.func17,Tryd.ntmps17
        go_wp2
        go_ret
        exact ⟨rfl,HB.out⟩
      ·obtain rfl:r=false:=by rw [← hr];simp only [decide_eq_false_iff_not];omega
       have hd:decide (c < 2147483648)=false:=by simpa using h5
       clear hr
       go_enter Tryd.func17,Tryd.ntmps17
       go_wp2
       go_ret
       exact ⟨rfl,HB.out⟩
     ·obtain rfl:r=false:=by rw [← hr];simp only [decide_eq_false_iff_not];omega
      have hd:decide (0≤c)=false:=by simpa using h4
      clear hr
      go_enter Tryd.func17,Tryd.ntmps17
      go_wp2
      go_ret
      exact ⟨rfl,HB.out⟩
    ·obtain rfl:r=false:=by rw [← hr];simp only [decide_eq_false_iff_not];omega
     have hd:decide (b < 2147483648)=false:=by simpa using h3
     clear hr
     go_enter Tryd.func17,Tryd.ntmps17
     go_wp2
     go_ret
     exact ⟨rfl,HB.out⟩
   ·obtain rfl:r=false:=by rw [← hr];simp only [decide_eq_false_iff_not];omega
    have hd:decide (0≤b)=false:=by simpa using h2
    clear hr
    go_enter Tryd.func17,Tryd.ntmps17
    go_wp2
    go_ret
    exact ⟨rfl,HB.out⟩
  ·obtain rfl:r=false:=by rw [← hr];simp only [decide_eq_false_iff_not];omega
   have hd:decide (a≤4095)=false:=by simpa using h1
   clear hr
   go_enter Tryd.func17,Tryd.ntmps17
   go_wp2
   go_ret
   exact ⟨rfl,HB.out⟩
 ·obtain rfl:r=false:=by rw [← hr];simp only [decide_eq_false_iff_not];omega
  have hd:decide (0≤a)=false:=by simpa using h0
  clear hr
  go_enter Tryd.func17,Tryd.ntmps17
  go_wp2
  go_ret
  exact ⟨rfl,HB.out⟩
theorem rtarget_any (l:List UInt8) (w:World) (hm:l.length≤140737488351232) :
 Calls Tryd.prog 18 #[.string (str l)] w fun e w' => e=.returned (.int .i64 (targetD 9 6 l))∧w=w':=by
 have hT:=rtext_any (str l) w (by rw [str_size];omega)
 rw [str_data] at hT;have hs:(str l).size=l.length:=str_size l;obtain ⟨r,hr⟩:∃ r,targetD 9 6 l=r:=⟨_,rfl⟩;rw [hr];unfold targetD at hr
 cases hx:textD l with
 | false =>
   rw [hx] at hr hT;simp only [if_true] at hr;subst hr
   go_enter Tryd.func18,Tryd.ntmps18
   go_wp2_with fail
   refine hT.mono ?_
   rintro e w1 ⟨rfl,rfl⟩
   go_wp2
   go_ret
   exact ⟨rfl,rfl⟩
 | true =>
   rw [hx] at hr hT
   by_cases h0:l=[]
   ·subst h0
    simp at hr;subst hr
    go_enter Tryd.func18,Tryd.ntmps18
    go_wp2_with fail
    refine hT.mono ?_
    rintro e w1 ⟨rfl,rfl⟩;have e0:(str []).toList.isEmpty=true:=by rw [str_empty];rfl
    go_wp2
    go_ret
    exact ⟨rfl,rfl⟩
   ·have e0:(str l).toList.isEmpty=false:=by rw [str_empty];simpa using h0
    by_cases h1:200 < l.length
    ·have h2:(200:Int) < (l.length:Int):=by omega
     simp [h0,h1] at hr;subst hr
     go_enter Tryd.func18,Tryd.ntmps18
     go_wp2_with fail
     refine hT.mono ?_
     rintro e w1 ⟨rfl,rfl⟩
     go_wp2
     go_ret
     exact ⟨rfl,rfl⟩
    ·have h2:¬ (200:Int) < (l.length:Int):=by omega
     simp [h0,h1] at hr;subst hr
     go_enter Tryd.func18,Tryd.ntmps18
     go_wp2_with fail
     refine hT.mono ?_
     rintro e w1 ⟨rfl,rfl⟩
     go_wp2
     go_ret
     exact ⟨rfl,rfl⟩
theorem rcl_any (l:List UInt8) (w:World) (hm:l.length≤140737488351232) :
 Calls Tryd.prog 16 #[.string (str l)] w fun e w' => e=.returned (.bool (cleanOk l))∧w=w':=by
 have hC:=rclean_any (str l) w (by rw [str_size];omega)
 rw [str_data] at hC;obtain ⟨r,hr⟩:∃ r,cleanOk l=r:=⟨_,rfl⟩;rw [hr];unfold cleanOk at hr;obtain ⟨⟨cp,ce⟩,hc⟩:∃ x,cleanD 9 6 l=x:=⟨_,rfl⟩;rw [hc] at hC hr;clear hc;simp only [Prod.mk.injEq] at hr
 by_cases h0:ce=0
 ·by_cases h1:l=cp
  ·have e1:((str l).toList == (str cp).toList)=true:=by rw [str_toList,str_toList];simpa using h1
   have hr':r=true:=by rw [← hr];simp [h0,h1]
   subst h0 hr';clear hr h1
   go_enter Tryd.func16,Tryd.ntmps16
   go_wp2_with fail
   refine hC.mono ?_
   rintro e w1 ⟨rfl,rfl⟩
   go_wp2
   go_ret
   exact ⟨rfl,rfl⟩
  ·have e1:((str l).toList == (str cp).toList)=false:=by rw [str_toList,str_toList];simpa using h1
   have hr':r=false:=by rw [← hr];simp;exact fun h => absurd h.symm h1
   subst h0 hr';clear hr h1
   go_enter Tryd.func16,Tryd.ntmps16
   go_wp2_with fail
   refine hC.mono ?_
   rintro e w1 ⟨rfl,rfl⟩
   go_wp2
   go_ret
   exact ⟨rfl,rfl⟩
 ·have e1:(ce == 0)=false:=by simpa using h0
  have hr':r=false:=by rw [← hr];simp [h0]
  subst hr';clear hr
  go_enter Tryd.func16,Tryd.ntmps16
  go_wp2_with fail
  refine hC.mono ?_
  rintro e w1 ⟨rfl,rfl⟩
  go_wp2
  go_ret
  exact ⟨rfl,rfl⟩
end Go.Proofs.YtnpkcneojilmkaaDoor.Mem
end
section
namespace Go.Proofs.YtnpkcneojilmkaaDoor.Mem
open Go.ChangeShapes Go.WideShapes Go.ChangeAt Go.RowKit Base Byt Txt Bk Hp Head Num Path Go.Lib
set_option linter.unusedVariables false
set_option maxRecDepth 100000
set_option maxHeartbeats 4000000 in
theorem rgood_any (m:MemV) (p:Option Addr) (c:Nat) (w:World) (h1:m.path.length≤140737488351232) (h2:m.target.length≤140737488351232) :
 Calls Tryd.prog 9 #[.agg (memC m p c)] w fun e w' => e=.returned (.bool (goodD m))∧Below w.heap.size w w':=by
 have hu:=fun k hk => u8_lit m.kind k hk
 obtain ⟨kn,hkn⟩:∃ kn:Int,(m.kind.toNat:Int)=kn:=⟨_,rfl⟩;unfold memC;rw [hkn] at hu ⊢;have C1:=fun w => rcl_any m.path w h1
 have C2:=fun w => rcl_any m.target w h2
 have C3:=fun w => rtarget_any m.target w h2
 have C4:=fun w => rmeta_any m.mode m.uid m.gid m.time w
 obtain ⟨r,hr⟩:∃ r,goodD m=r:=⟨_,rfl⟩;rw [hr];unfold goodD at hr;obtain ⟨b1,hb1⟩:∃ b,cleanOk m.path=b:=⟨_,rfl⟩;obtain ⟨b2,hb2⟩:∃ b,cleanOk m.target=b:=⟨_,rfl⟩;obtain ⟨b3,hb3⟩:∃ b,targetD 9 6 m.target=b:=⟨_,rfl⟩;obtain ⟨b4,hb4⟩:∃ b,metaOk m.mode m.uid m.gid m.time=b:=⟨_,rfl⟩;simp only [hb1,hb2,hb3,hb4] at hr C1 C2 C3 C4;clear hb1 hb2 hb3 hb4 h1 h2;have hkk:m.kind=48 ↔ kn=48:=(hu 48 (by decide)).symm
 have hk1:m.kind=49 ↔ kn=49:=(hu 49 (by decide)).symm
 have hk2:m.kind=50 ↔ kn=50:=(hu 50 (by decide)).symm
 have hk3:m.kind=53 ↔ kn=53:=(hu 53 (by decide)).symm
 obtain ⟨bl,hbl⟩:∃ bl,m.body.length=bl:=⟨_,rfl⟩;have hte:(str m.target).toList.isEmpty=decide (m.target=[]):=str_empty m.target
 have hr2:(b1 && b4 && decide (bl≤1048576) && (decide (kn=48) || decide (bl=0)) && (if kn=48 ∨ kn=53 then decide (m.target=[]) else if kn=49 then b2 else if kn=50 then (b3 == 0) else false))=r:=by
  rw [← hr];have e1:(m.kind == 48)=decide (kn=48):=by rw [Bool.eq_iff_iff];simp [hkk]
  have e2:(m.body == [])=decide (bl=0):=by rw [Bool.eq_iff_iff,← hbl];simp
  have e3:(m.target == [])=decide (m.target=[]):=by rw [Bool.eq_iff_iff];simp
  have e4:(b3 == 0)=decide (b3=0):=by rw [Bool.eq_iff_iff];simp
  rw [e1,e2,e3,e4,hbl];simp only [hkk,hk1,hk2,hk3]
 rw [hbl];clear hr hkk hk1 hk2 hk3 hbl hu;have HB0:=Lib.hid ((Below.refl w.heap.size w).alloc (Nat.le_refl _) (.cells #[.string (str m.path),.string (str m.target),.int .u8 kn,.int .i64 m.mode,.int .i64 m.uid,.int .i64 m.gid,.int .i64 m.time,.slice p bl c] 26));have HX0:=Lib.hid (Blk.new w 26 #[.string (str m.path),.string (str m.target),.int .u8 kn,.int .i64 m.mode,.int .i64 m.uid,.int .i64 m.gid,.int .i64 m.time,.slice p bl c]);have HR:=Lib.hid hr2;clear hr2 hkn
 cases b1 with
 | false =>
   have hrv:r=false:=by rw [← HR.out];simp
   subst hrv
   go_enter Tryd.func9,Tryd.ntmps9
   go_wp2_with fail
   refine (C1 _).mono ?_
   rintro e w1 ⟨rfl,rfl⟩
   go_wp2
   go_ret
   exact ⟨rfl,HB0.out⟩
 | true =>
   cases b4 with
   | false =>
     have hrv:r=false:=by rw [← HR.out];simp
     subst hrv
     go_enter Tryd.func9,Tryd.ntmps9
     go_wp2_with fail
     refine (C1 _).mono ?_
     rintro e w1 ⟨rfl,rfl⟩;have b9:=HX0.out;have y3:=b9.cell 3;have y4:=b9.cell 4;have y5:=b9.cell 5;have y6:=b9.cell 6;simp only [List.getElem?_toArray,List.getElem?_cons_zero,List.getElem?_cons_succ] at y3 y4 y5 y6;clear b9
     go_wp2_with fail
     refine (C4 _).mono ?_
     rintro e w2 ⟨rfl,hb⟩;have HB2:=Lib.hid (HB0.out.trans (hb.mono HB0.out.size));have HX2:=Lib.hid (HX0.out.below hb HX0.out.lt);clear hb y3 y4 y5 y6;have b9:=HX2.out;have y1:=b9.cell 1;have y2:=b9.cell 2;have y7:=b9.cell 7;simp only [List.getElem?_toArray,List.getElem?_cons_zero,List.getElem?_cons_succ] at y1 y2 y7;clear b9
     go_wp2
     go_ret
     exact ⟨rfl,HB2.out⟩
   | true =>
     by_cases l1:1048576 < bl
     ·have l2:(1048576:Int) < (bl:Int):=by omega
      have hrv:r=false:=by rw [← HR.out];simp;omega
      subst hrv
      go_enter Tryd.func9,Tryd.ntmps9
      go_wp2_with fail
      refine (C1 _).mono ?_
      rintro e w1 ⟨rfl,rfl⟩;have b9:=HX0.out;have y3:=b9.cell 3;have y4:=b9.cell 4;have y5:=b9.cell 5;have y6:=b9.cell 6;simp only [List.getElem?_toArray,List.getElem?_cons_zero,List.getElem?_cons_succ] at y3 y4 y5 y6;clear b9
      go_wp2_with fail
      refine (C4 _).mono ?_
      rintro e w2 ⟨rfl,hb⟩;have HB2:=Lib.hid (HB0.out.trans (hb.mono HB0.out.size));have HX2:=Lib.hid (HX0.out.below hb HX0.out.lt);clear hb y3 y4 y5 y6;have b9:=HX2.out;have y1:=b9.cell 1;have y2:=b9.cell 2;have y7:=b9.cell 7;simp only [List.getElem?_toArray,List.getElem?_cons_zero,List.getElem?_cons_succ] at y1 y2 y7;clear b9
      go_wp2
      go_ret
      exact ⟨rfl,HB2.out⟩
     ·have l2:¬ (1048576:Int) < (bl:Int):=by omega
      have l3:bl≤1048576:=by omega
      by_cases k0:kn=48
      ·subst k0
       have hrv:r=decide (m.target=[]):=by rw [← HR.out];simp [l3]
       subst hrv
       go_enter Tryd.func9,Tryd.ntmps9
       go_wp2_with fail
       refine (C1 _).mono ?_
       rintro e w1 ⟨rfl,rfl⟩;have b9:=HX0.out;have y3:=b9.cell 3;have y4:=b9.cell 4;have y5:=b9.cell 5;have y6:=b9.cell 6;simp only [List.getElem?_toArray,List.getElem?_cons_zero,List.getElem?_cons_succ] at y3 y4 y5 y6;clear b9
       go_wp2_with fail
       refine (C4 _).mono ?_
       rintro e w2 ⟨rfl,hb⟩;have HB2:=Lib.hid (HB0.out.trans (hb.mono HB0.out.size));have HX2:=Lib.hid (HX0.out.below hb HX0.out.lt);clear hb y3 y4 y5 y6;have b9:=HX2.out;have y1:=b9.cell 1;have y2:=b9.cell 2;have y7:=b9.cell 7;simp only [List.getElem?_toArray,List.getElem?_cons_zero,List.getElem?_cons_succ] at y1 y2 y7;clear b9
       go_wp2
       go_ret
       exact ⟨rfl,HB2.out⟩
      ·have e0:(kn != 48)=true:=by simpa using k0
       have f0:(kn == 48)=false:=by simpa using k0
       by_cases l4:bl=0
       ·subst l4
        by_cases k3:kn=53
        ·subst k3
         have hrv:r=decide (m.target=[]):=by rw [← HR.out];simp
         subst hrv
         go_enter Tryd.func9,Tryd.ntmps9
         go_wp2_with fail
         refine (C1 _).mono ?_
         rintro e w1 ⟨rfl,rfl⟩;have b9:=HX0.out;have y3:=b9.cell 3;have y4:=b9.cell 4;have y5:=b9.cell 5;have y6:=b9.cell 6;simp only [List.getElem?_toArray,List.getElem?_cons_zero,List.getElem?_cons_succ] at y3 y4 y5 y6;clear b9
         go_wp2_with fail
         refine (C4 _).mono ?_
         rintro e w2 ⟨rfl,hb⟩;have HB2:=Lib.hid (HB0.out.trans (hb.mono HB0.out.size));have HX2:=Lib.hid (HX0.out.below hb HX0.out.lt);clear hb y3 y4 y5 y6;have b9:=HX2.out;have y1:=b9.cell 1;have y2:=b9.cell 2;have y7:=b9.cell 7;simp only [List.getElem?_toArray,List.getElem?_cons_zero,List.getElem?_cons_succ] at y1 y2 y7;clear b9
         go_wp2
         go_ret
         exact ⟨rfl,HB2.out⟩
        ·have f3:(kn == 53)=false:=by simpa using k3
         by_cases k1:kn=49
         ·subst k1
          have hrv:r=b2:=by rw [← HR.out];simp
          subst hrv
          go_enter Tryd.func9,Tryd.ntmps9
          go_wp2_with fail
          refine (C1 _).mono ?_
          rintro e w1 ⟨rfl,rfl⟩;have b9:=HX0.out;have y3:=b9.cell 3;have y4:=b9.cell 4;have y5:=b9.cell 5;have y6:=b9.cell 6;simp only [List.getElem?_toArray,List.getElem?_cons_zero,List.getElem?_cons_succ] at y3 y4 y5 y6;clear b9
          go_wp2_with fail
          refine (C4 _).mono ?_
          rintro e w2 ⟨rfl,hb⟩;have HB2:=Lib.hid (HB0.out.trans (hb.mono HB0.out.size));have HX2:=Lib.hid (HX0.out.below hb HX0.out.lt);clear hb y3 y4 y5 y6;have b9:=HX2.out;have y1:=b9.cell 1;have y2:=b9.cell 2;have y7:=b9.cell 7;simp only [List.getElem?_toArray,List.getElem?_cons_zero,List.getElem?_cons_succ] at y1 y2 y7;clear b9
          go_wp2_with fail
          refine (C2 _).mono ?_
          rintro e w3 ⟨rfl,rfl⟩
          go_wp2
          go_ret
          exact ⟨rfl,HB2.out⟩
         ·have f1:(kn == 49)=false:=by simpa using k1
          by_cases k2:kn=50
          ·subst k2
           have hrv:r=(b3 == 0):=by rw [← HR.out];simp
           subst hrv
           go_enter Tryd.func9,Tryd.ntmps9
           go_wp2_with fail
           refine (C1 _).mono ?_
           rintro e w1 ⟨rfl,rfl⟩;have b9:=HX0.out;have y3:=b9.cell 3;have y4:=b9.cell 4;have y5:=b9.cell 5;have y6:=b9.cell 6;simp only [List.getElem?_toArray,List.getElem?_cons_zero,List.getElem?_cons_succ] at y3 y4 y5 y6;clear b9
           go_wp2_with fail
           refine (C4 _).mono ?_
           rintro e w2 ⟨rfl,hb⟩;have HB2:=Lib.hid (HB0.out.trans (hb.mono HB0.out.size));have HX2:=Lib.hid (HX0.out.below hb HX0.out.lt);clear hb y3 y4 y5 y6;have b9:=HX2.out;have y1:=b9.cell 1;have y2:=b9.cell 2;have y7:=b9.cell 7;simp only [List.getElem?_toArray,List.getElem?_cons_zero,List.getElem?_cons_succ] at y1 y2 y7;clear b9
           go_wp2_with fail
           refine (C3 _).mono ?_
           rintro e w3 ⟨rfl,rfl⟩
           go_wp2
           go_ret
           exact ⟨rfl,HB2.out⟩
          ·have f2:(kn == 50)=false:=by simpa using k2
           have hrv:r=false:=by rw [← HR.out];simp [k0,k1,k2,k3]
           subst hrv
           go_enter Tryd.func9,Tryd.ntmps9
           go_wp2_with fail
           refine (C1 _).mono ?_
           rintro e w1 ⟨rfl,rfl⟩;have b9:=HX0.out;have y3:=b9.cell 3;have y4:=b9.cell 4;have y5:=b9.cell 5;have y6:=b9.cell 6;simp only [List.getElem?_toArray,List.getElem?_cons_zero,List.getElem?_cons_succ] at y3 y4 y5 y6;clear b9
           go_wp2_with fail
           refine (C4 _).mono ?_
           rintro e w2 ⟨rfl,hb⟩;have HB2:=Lib.hid (HB0.out.trans (hb.mono HB0.out.size));have HX2:=Lib.hid (HX0.out.below hb HX0.out.lt);clear hb y3 y4 y5 y6;have b9:=HX2.out;have y1:=b9.cell 1;have y2:=b9.cell 2;have y7:=b9.cell 7;simp only [List.getElem?_toArray,List.getElem?_cons_zero,List.getElem?_cons_succ] at y1 y2 y7;clear b9
           go_wp2
           go_ret
           exact ⟨rfl,HB2.out⟩
       ·have l5:(0:Int) < (bl:Int):=by omega
        have hrv:r=false:=by rw [← HR.out];simp [k0,l4]
        subst hrv
        go_enter Tryd.func9,Tryd.ntmps9
        go_wp2_with fail
        refine (C1 _).mono ?_
        rintro e w1 ⟨rfl,rfl⟩;have b9:=HX0.out;have y3:=b9.cell 3;have y4:=b9.cell 4;have y5:=b9.cell 5;have y6:=b9.cell 6;simp only [List.getElem?_toArray,List.getElem?_cons_zero,List.getElem?_cons_succ] at y3 y4 y5 y6;clear b9
        go_wp2_with fail
        refine (C4 _).mono ?_
        rintro e w2 ⟨rfl,hb⟩;have HB2:=Lib.hid (HB0.out.trans (hb.mono HB0.out.size));have HX2:=Lib.hid (HX0.out.below hb HX0.out.lt);clear hb y3 y4 y5 y6;have b9:=HX2.out;have y1:=b9.cell 1;have y2:=b9.cell 2;have y7:=b9.cell 7;simp only [List.getElem?_toArray,List.getElem?_cons_zero,List.getElem?_cons_succ] at y1 y2 y7;clear b9
        go_wp2
        go_ret
        exact ⟨rfl,HB2.out⟩
end Go.Proofs.YtnpkcneojilmkaaDoor.Mem
end
section
namespace Go.Proofs.YtnpkcneojilmkaaDoor.Mem
open Go.ChangeShapes Go.WideShapes Go.ChangeAt Go.RowKit Base Byt Txt Bk Hp Head Num Path Go.Lib
set_option linter.unusedVariables false
set_option maxRecDepth 100000
set_option maxHeartbeats 4000000 in
theorem memGood_any (m:MemV) (p:Option Addr) (c:Nat) (w:World) (h1:m.path.length≤1000000000000) (h2:m.target.length≤1000000000000) (hT:Tabs w) :
 Calls Tryd.prog 13 #[.agg (memC m p c)] w fun e w' => e=.returned (.bool (goodD m))∧Below w.heap.size w w':=by
 rw [goodD_is];obtain ⟨⟨fm,fe⟩,hfd⟩:∃ x,fromD (headOfM m)=x:=⟨_,rfl⟩;have hfb:fm.body=[]:=by have:=fromD_body (headOfM m);rw [hfd] at this;exact this
 have CF:∀ wi,Below w.heap.size w wi → Calls Tryd.prog 29 #[.agg #[.string (str m.path),.string (str m.target),.int .u8 (m.kind.toNat:Int),.int .i64 m.mode,.int .i64 m.uid,.int .i64 m.gid,.int .i64 m.time,.int .i64 (m.body.length:Int),.bool false]] wi fun e w' => e=.returned (.tuple #[.agg #[.string (str fm.path),.string (str fm.target),.int .u8 (fm.kind.toNat:Int),.int .i64 fm.mode,.int .i64 fm.uid,.int .i64 fm.gid,.int .i64 fm.time,.slice none 0 0],.int .i64 fe])∧Below wi.heap.size wi w':=fun wi hb => by
  have:=fromHead_any (headOfM m) wi h1 h2 (hT.below hb);rw [hfd] at this;unfold memC at this;simp only [hfb,List.length_nil] at this;exact this
 have HCF:=Lib.hid CF;have C1:=known_any m.kind;unfold memC;obtain ⟨kn,hkn⟩:∃ kn:Int,(m.kind.toNat:Int)=kn:=⟨_,rfl⟩;obtain ⟨bl,hbl⟩:∃ bl,m.body.length=bl:=⟨_,rfl⟩;rw [hkn,hbl] at HCF;rw [hkn] at C1;rw [hkn,hbl]
 have e1:((str fm.path).toList == (str m.path).toList)=decide (fm.path=m.path):=by
  rw [str_toList,str_toList]
  by_cases h:fm.path=m.path<;>simp [h]
 have e2:((str fm.target).toList == (str m.target).toList)=decide (fm.target=m.target):=by
  rw [str_toList,str_toList]
  by_cases h:fm.target=m.target<;>simp [h]
 rw [hfd];simp only;obtain ⟨x0,hx0⟩:∃ x,knownD m.kind=x:=⟨_,rfl⟩;obtain ⟨x1,hx1⟩:∃ x,decide (fm.path=m.path)=x:=⟨_,rfl⟩;obtain ⟨x2,hx2⟩:∃ x,decide (fm.target=m.target)=x:=⟨_,rfl⟩;rw [hx0] at C1;rw [hx0,hx1,hx2];rw [hx1] at e1;rw [hx2] at e2;have HB:=Lib.hid ((Below.refl w.heap.size w).alloc (Nat.le_refl _) (.cells #[.string (str m.path),.string (str m.target),.int .u8 kn,.int .i64 m.mode,.int .i64 m.uid,.int .i64 m.gid,.int .i64 m.time,.slice p bl c] 26));have HX:=Lib.hid (Blk.new w 26 #[.string (str m.path),.string (str m.target),.int .u8 kn,.int .i64 m.mode,.int .i64 m.uid,.int .i64 m.gid,.int .i64 m.time,.slice p bl c])
 clear hx0 hx1 hx2 hkn hbl hfd hfb CF h1 h2 hT
 cases x0 with
 | false =>
   go_enter Tryd.func13,Tryd.ntmps13
   go_wp2_with fail
   refine (C1 _).mono ?_
   rintro e w1 ⟨rfl,rfl⟩
   go_wp2
   go_ret
   exact ⟨rfl,HB.out⟩
 | true =>
   have hb3:∀ (wi:World),Below (w.alloc (.cells #[.string (str m.path),.string (str m.target),.int .u8 kn,.int .i64 m.mode,.int .i64 m.uid,.int .i64 m.gid,.int .i64 m.time,.slice p bl c] 26)).heap.size (w.alloc (.cells #[.string (str m.path),.string (str m.target),.int .u8 kn,.int .i64 m.mode,.int .i64 m.uid,.int .i64 m.gid,.int .i64 m.time,.slice p bl c] 26)) wi → Below w.heap.size w (wi.alloc (.cells #[.string (str fm.path),.string (str fm.target),.int .u8 (fm.kind.toNat:Int),.int .i64 fm.mode,.int .i64 fm.uid,.int .i64 fm.gid,.int .i64 fm.time,.slice none 0 0] 26))  :=fun wi hb =>
    (HB.out.trans (hb.mono HB.out.size)).alloc (HB.out.trans (hb.mono HB.out.size)).size _
   have HB3:=Lib.hid hb3;clear hb3
   by_cases h0:fe=0
   ·subst h0
    go_enter Tryd.func13,Tryd.ntmps13
    go_wp2_with fail
    refine (C1 _).mono ?_
    rintro e w1 ⟨rfl,rfl⟩
    go_wp2_with fail
    refine (HCF.out _ HB.out).mono ?_
    rintro e w2 ⟨rfl,hb⟩;have F:=Lib.hid (HB3.out _ hb);have b9:=HX.out.below (hb.alloc hb.size (.cells #[.string (str fm.path),.string (str fm.target),.int .u8 (fm.kind.toNat:Int),.int .i64 fm.mode,.int .i64 fm.uid,.int .i64 fm.gid,.int .i64 fm.time,.slice none 0 0] 26)) HX.out.lt;have y0:=b9.cell 0;have y1:=b9.cell 1;simp only [List.getElem?_toArray,List.getElem?_cons_zero,List.getElem?_cons_succ] at y0 y1;clear hb b9
    cases x1 with
    | false =>
      go_wp2
      go_ret
      exact ⟨rfl,F.out⟩
    | true =>
      go_wp2
      go_ret
      exact ⟨rfl,F.out⟩
   ·have hne:(fe == 0)=false:=by simpa using h0
    have hd:decide (fe=0)=false:=by simpa using h0
    rw [hd]
    go_enter Tryd.func13,Tryd.ntmps13
    go_wp2_with fail
    refine (C1 _).mono ?_
    rintro e w1 ⟨rfl,rfl⟩
    go_wp2_with fail
    refine (HCF.out _ HB.out).mono ?_
    rintro e w2 ⟨rfl,hb⟩;have F:=Lib.hid (HB3.out _ hb);clear hb
    go_wp2
    go_ret
    exact ⟨rfl,F.out⟩
end Go.Proofs.YtnpkcneojilmkaaDoor.Mem
end
section
namespace Go.Proofs.YtnpkcneojilmkaaDoor.Mem
open Go.ChangeShapes Go.WideShapes Go.ChangeAt Go.RowKit Base Byt Txt Bk Hp Head Num Path Block Go.Lib
set_option linter.unusedVariables false
set_option maxRecDepth 100000
theorem take_getD (l:List UInt8) (k:Nat) (h:k < l.length):l.take (k+1)=l.take k++[l.getD k 0]:=by
 rw [List.take_succ_eq_append_getElem h];simp [List.getD,h]
theorem mem_getD (l:List UInt8) (k:Nat) (h:k < l.length):l.getD k 0 ∈ l:=by
 rw [List.getD,List.getElem?_eq_getElem h];exact List.getElem_mem h
theorem rfits_any (s:ByteArray) (w:World) (hm:s.size≤140737488351232) :
 Calls Tryd.prog 20 #[.string s] w fun e w' => e=.returned (.bool (fitsD s.data.toList))∧w=w':=by
 have HLEN:Hid (s.data.toList.length=s.size):=Lib.hid (by simp)
 go_enter Tryd.func20,Tryd.ntmps20
 go_wp2
 go_loop [3] (fun i => ∃ (k:Nat),k≤s.size∧i=.int .i64 k∧Hid (∀ x ∈ s.data.toList.take k,x.toNat≤127)) (fun i => s.size - (RowKit.intOf i).toNat)
 case atStart => exact ⟨0,Nat.zero_le _,rfl,Lib.hid (by simp)⟩
 case round =>
  obtain ⟨k,hk,rfl,hr⟩:=hrel
  by_cases hlt:k < s.size
  ·have HG:Hid (((s[k]).toNat:Int)=((s.data.toList.getD k 0).toNat:Int)):=Lib.hid (by rw [s_at s k hlt])
   have hkl:k < s.data.toList.length:=by rw [HLEN.out];exact hlt
   have HT:=Lib.hid (take_getD s.data.toList k hkl);have HM:=Lib.hid (mem_getD s.data.toList k hkl);clear hkl;have hxb:=u8_bd (s[k]);obtain ⟨hx0,hx1⟩:=hxb
   by_cases h0:(127:Int) < ((s[k]).toNat:Int)
   ·have E:Hid (fitsD s.data.toList=false):=Lib.hid (by
     unfold fitsD;rw [Bool.eq_false_iff];intro h;have:=of_decide_eq_true (List.all_eq_true.1 h _ HM.out);have hg:=HG.out
     omega)
    go_wp2
    go_ret
    rw [E.out];exact ⟨rfl,rfl⟩
   ·go_wp2
    go_round
    case rel => exact ⟨k+1,by omega,by go_num,Lib.hid (fun y hy => by
     rw [HT.out,List.mem_append] at hy;rcases hy with hy | hy
     ·exact hr.out y hy
     ·simp only [List.mem_singleton] at hy
      subst hy;have hg:=HG.out
      omega)⟩
    case measure => simp [RowKit.intOf];omega
  ·have E:Hid (fitsD s.data.toList=true):=Lib.hid (by
    unfold fitsD;rw [List.all_eq_true];intro x hx
    exact decide_eq_true (hr.out x (by rw [List.take_of_length_le (by rw [HLEN.out];omega)];exact hx)))
   go_wp2
   go_ret
   rw [E.out];exact ⟨rfl,rfl⟩
def PadPost (w:World) (bs:List UInt8) (e:Ending) (w':World):Prop:=∃ v,e=.returned v∧OwnB w' w.heap.size v bs.length bs∧Kept noneB w w'
theorem rpadded_any (p:Option Addr) (n c:Nat) (bs:List UInt8) (w:World) (hl:bs.length=n) (hn:n≤100000000000) (h:BAt w p n bs) :
 Calls Tryd.prog 24 #[.slice p n c] w (PadPost w (padB bs)):=by
 obtain ⟨i0,hi,hz0,hz1,hz2⟩:=info_parts infoU8;have HI:=Lib.hid hi;have HZ0:=Lib.hid hz0;have HZ1:=Lib.hid hz1;have HZ2:=Lib.hid hz2;have HB:=Lib.hid h;have HL:=Lib.hid hl;clear hi hz0 hz1 hz2 h hl;have hbk:=blocks_ge n;have hdiv:((n:Int)+511) / 512 * 512=((blocksOf n:Nat):Int):=by unfold blocksOf;omega
 obtain ⟨B,hB⟩:∃ B,blocksOf n=B:=⟨_,rfl⟩;rw [hB] at hbk hdiv;have HBE:=Lib.hid hB;clear hB;obtain ⟨hb1,hb2⟩:=hbk
 go_enter Tryd.func24,Tryd.ntmps24
 go_wp2_with (at_builtin;refine append_bytes rfl _ _ 24 rfl w.heap.size 5 i0 Tryd.underlying24 HI.out HZ0.out HZ1.out HZ2.out _ 0 [] rfl (World.ownsRow_made w #[] 0 (Nat.le_refl _) (by decide) rfl) p n c bs rfl (HB.out.alloc _) HL.out ?d2 ?d3 ?_)
 case d2 => omega
 case d3 => simp
 intro v1 w1 hown hgrow;have HO1:Hid (OwnB w1 w.heap.size v1 n bs):=Lib.hid (by simpa [OwnB] using hown)
 have HK1:Hid (Kept noneB w w1):=Lib.hid ((((Kept.refl noneB w).alloc _)).grown hgrow (by intro k hk;simp [Value.ownBlock] at hk;omega))
 clear hown hgrow
 go_wp2_with (at_builtin;refine append_zeros_new rfl _ _ 24 3 rfl w.heap.size 5 i0 .i64 .i64 Tryd.underlying24 Tryd.underlying3 HI.out HZ0.out HZ1.out HZ2.out v1 n (nums bs) rfl HO1.out _ (B - n) rfl ?e1 ?e2 HK1.out.size ?_)
 case e1 => omega
 case e2 => omega
 intro v2 w2 hown hgrow _
 have F:Hid (PadPost w (padB bs) (.returned v2) w2):=Lib.hid (by
  refine ⟨v2,rfl,?_,HK1.out.grown hgrow (fun k hk => .inl (HO1.out.lt k hk).1)⟩
  have e:nums (padB bs)=nums bs++zs8 (B - n):=by
   unfold padB;rw [HL.out,HBE.out,← show nums (List.replicate (B - n) 0)=zs8 (B - n) by simp [nums,zs8]]
   unfold nums;rw [List.map_append]
  unfold OwnB;rw [e,padB_length,HL.out,HBE.out];rw [List.map_append]
  exact hown)
 clear hown hgrow
 go_wp2
 go_ret
 exact F.out
end Go.Proofs.YtnpkcneojilmkaaDoor.Mem
end
section
namespace Go.Proofs.YtnpkcneojilmkaaDoor.Mem
open Go.ChangeShapes Go.WideShapes Go.ChangeAt Go.RowKit Go.Shelf Base Byt Txt Bk Hp Head Go.Proofs.YtnpkcneojilmkaaDoor.Mp Block Go.Lib
set_option linter.unusedVariables false
set_option maxRecDepth 100000
theorem wpAny_ops {P:Program} {ops ops':Array Oper} {Q:Exit → Act → World → Prop} {a:Act} {w:World} (h:ops=ops') (hw:wpAny P .any ops' Q ops'.size (Array.replicate ops'.size false) a w):wpAny P .any ops Q ops.size (Array.replicate ops.size false) a w:=h ▸ hw
theorem wp_append_bytes {w:World} {o:Oper} {b:Act} {Kk:Act → World → Prop} {Q:Exit → Act → World → Prop} (x y:Operand)
 (ho:o.op=.call { callee:=.builtin .append,args:=#[x,y],argTypes:=#[24,24] })
 (B:Nat) (v:Value) (xs:List UInt8) (hs:b.eval x=v) (hown:OwnB w B v xs.length xs)
 (p:Option Addr) (m c:Nat) (bs:List UInt8) (hx:b.eval y=.slice p m c) (hb:BAt w p m bs) (hl:bs.length=m) (hsum:xs.length+m≤140737488351232) (hbase:B≤w.heap.size)
 (h:∀ v' w',OwnB w' B v' (xs++bs).length (xs++bs) → w.grownBy w' v.ownBlock → NewOr w v v' → Kk (b.put o.dst v') w'):Oper.wp Tryd.prog o b w Kk Q:=by
 obtain ⟨i0,hi,hz0,hz1,hz2⟩:=info_parts infoU8
 have key:∃ v' w',(Builtin.append_ #[24,24] o.type #[v,.slice p m c]).run Tryd.prog w=.ok v' w'∧OwnB w' B v' (xs++bs).length (xs++bs)∧w.grownBy w' v.ownBlock∧NewOr w v v':=by
  rcases p with _ | ad
  ·have hm:m=0:=by
    rcases Nat.eq_zero_or_pos m with h0 | h0
    ·exact h0
    ·obtain ⟨_,_,he,_⟩:=hb h0
     cases he
   subst hm;obtain rfl:bs=[]:=List.eq_nil_of_length_eq_zero hl;refine ⟨v,w,?_,by simpa using hown,World.grownBy.refl w _,fun k hk => Or.inl hk⟩
   rcases hown.2 with ⟨rfl,h0⟩ | ⟨g,cap,cur,rfl,_,_,hnc,_⟩
   ·simp [Builtin.append_,run_underlying Tryd.underlying24,sizeOf,typeInfo,hi,Builtin.lenOf,Builtin.firstCells]
   ·simp [Builtin.append_,run_underlying Tryd.underlying24,sizeOf,typeInfo,hi,Builtin.lenOf,Builtin.firstCells,hnc,storeCells]
  ·obtain ⟨v',w',hr,h2,h3,h4⟩:=Mem.run_append_newS (P:=Tryd.prog) (w:=w) B 24 o.type 5 i0 (.int .u8 0) 1 1 Tryd.underlying24 hi hz0 hz1 hz2 rfl (by decide) v xs.length ((nums xs).map (Value.int .u8)) hown ad m c ((nums bs).map (Value.int .u8)) (by rw [List.length_map,nums_length,hl,Nat.mul_one]) (by
    intro j u hj
    have hjl:j < m:=by
     have:=(List.getElem?_eq_some_iff.1 hj).1;rw [List.length_map,nums_length,hl] at this;exact this
    obtain ⟨b',off,he,hc⟩:=hb (by omega)
    cases he
    rw [nums_getElem bs j (by omega)] at hj
    cases hj
    rw [WideShapes.add_plain]
    exact hc j hjl) (ints_oneCell .u8 _) (by unfold maxLen;omega) (by omega) hbase
   refine ⟨v',w',hr,?_,h3,h4⟩;unfold OwnB;rw [List.length_append,hl];have e:(nums (xs++bs)).map (Value.int .u8)=(nums xs).map (Value.int .u8)++(nums bs).map (Value.int .u8):=by unfold nums;rw [List.map_append,List.map_append]
   rw [e];exact h2
 obtain ⟨v',w',hr,h2,h3,h4⟩:=key;have hr2:(execOp b.eval o).run Tryd.prog w=.ok (.value v') w':=by simp [execOp,ho,resolve,invoke,builtin,hs,hx,hr,Result.andThen]
 unfold Oper.wp;rw [hr2,Oper.upon_value];exact h v' w' h2 h3 h4
noncomputable def put24Ops:Array Oper:=regionAt Tryd.f11 24
structure put24G where
 v1:Value
 vp:Value
 v2:Value
def put24V (bm gy:Nat) (v0:Value) (p:Option Addr) (bl c:Nat) (γ:put24G):Nat → Value
 | 0 => v0 | 1 => .slice (some ⟨gy,0,none⟩) 512 512 | 2 => γ.v1 | 3 => .pointer (some ⟨bm,7,none⟩) | 4 => .slice p bl c | 5 => γ.vp | 6 => γ.v2 | 7 => γ.v2 | _ => undef
theorem put24_size:put24Ops.size=8:=rfl
theorem put24_apart:apartG put24Ops 132=true:=by kernel_rfl
theorem put24_dst0:dstAt put24Ops 0=some 125:=rfl
theorem put24_op0:∃ o,put24Ops[0]? = some o∧o.op=.move (.tmp 8)∧o.dst=some 125:=⟨_,rfl,rfl,rfl⟩
theorem put24_dst1:dstAt put24Ops 1=some 126:=rfl
theorem put24_op1:∃ o,put24Ops[1]? = some o∧o.op=.move (.tmp 11)∧o.dst=some 126:=⟨_,rfl,rfl,rfl⟩
theorem put24_dst2:dstAt put24Ops 2=some 127:=rfl
theorem put24_op2:∃ o,put24Ops[2]? = some o∧o.op=.call { callee:=.builtin .append,args:=#[.tmp 125,.tmp 126],argTypes:=#[24,24] }∧o.dst=some 127:=⟨_,rfl,rfl,rfl⟩
theorem put24_dst3:dstAt put24Ops 3=some 128:=rfl
theorem put24_op3:∃ o,put24Ops[3]? = some o∧o.op=.fieldAddr 26 (.tmp 1) 4∧o.dst=some 128:=⟨_,rfl,rfl,rfl⟩
theorem put24_dst4:dstAt put24Ops 4=some 129:=rfl
theorem put24_op4:∃ o,put24Ops[4]? = some o∧o.op=.load 24 (.tmp 128)∧o.dst=some 129:=⟨_,rfl,rfl,rfl⟩
theorem put24_dst5:dstAt put24Ops 5=some 130:=rfl
theorem put24_op5:∃ o,put24Ops[5]? = some o∧o.op=.call { callee:=.value (.func 24),args:=#[.tmp 129],argTypes:=#[24] }∧o.dst=some 130:=⟨_,rfl,rfl,rfl⟩
theorem put24_dst6:dstAt put24Ops 6=some 131:=rfl
theorem put24_op6:∃ o,put24Ops[6]? = some o∧o.op=.call { callee:=.builtin .append,args:=#[.tmp 127,.tmp 130],argTypes:=#[24,24] }∧o.dst=some 131:=⟨_,rfl,rfl,rfl⟩
theorem put24_dst7:dstAt put24Ops 7=some 2:=rfl
theorem put24_op7:∃ o,put24Ops[7]? = some o∧o.op=.assign (.tmp 131)∧o.dst=some 2:=⟨_,rfl,rfl,rfl⟩
theorem put24V_v1 (bm gy:Nat) (v0:Value) (p:Option Addr) (bl c:Nat) (γ:put24G) (x:Value) {i:Nat} (h:i≠2):put24V bm gy v0 p bl c { γ with v1:=x } i=put24V bm gy v0 p bl c γ i:=by
 unfold put24V
 split<;>first | rfl | (exfalso;omega)
theorem put24V_vp (bm gy:Nat) (v0:Value) (p:Option Addr) (bl c:Nat) (γ:put24G) (x:Value) {i:Nat} (h:i≠5):put24V bm gy v0 p bl c { γ with vp:=x } i=put24V bm gy v0 p bl c γ i:=by
 unfold put24V
 split<;>first | rfl | (exfalso;omega)
theorem put24V_v2 (bm gy:Nat) (v0:Value) (p:Option Addr) (bl c:Nat) (γ:put24G) (x:Value) {i:Nat} (h:i≠6∧i≠7):put24V bm gy v0 p bl c { γ with v2:=x } i=put24V bm gy v0 p bl c γ i:=by
 unfold put24V
 split<;>first | rfl | (exfalso;omega)
structure W24 (w:World) (B bm:Nat) (M:Array Value) (v0:Value) (X Y P:List UInt8) (w1:World) (γ:put24G) (listed:Array Bool) (w':World):Prop where
 bel:Below w.heap.size w w'
 le:w1.heap.size≤w'.heap.size
 mem:Blk w' bm 26 M
 ysrc:listed.getD 2 false=false → ∀ b o,BAt w1 (some ⟨b,o,none⟩) 512 Y → (∀ k,v0.ownBlock=some k → k≠b) → BAt w' (some ⟨b,o,none⟩) 512 Y
 o0:listed.getD 2 false=false → OwnB w' B v0 X.length X
 o1:listed.getD 2 false=true → listed.getD 6 false=false → OwnB w' B γ.v1 (X++Y).length (X++Y)
 pd:listed.getD 5 false=true → listed.getD 6 false=false → OwnB w' w1.heap.size γ.vp P.length P
 fin:listed.getD 6 false=true → OwnB w' B γ.v2 ((X++Y)++P).length ((X++Y)++P)
 c6:listed.getD 6 false=true → listed.getD 2 false=true∧listed.getD 5 false=true
theorem W24.keep {w w1 w':World} {B bm:Nat} {M:Array Value} {v0:Value} {X Y P:List UInt8} {γ:put24G} {listed:Array Bool} (hW:W24 w B bm M v0 X Y P w1 γ listed w') {j:Nat} (hlt:j < listed.size) (hj:j≠2∧j≠5∧j≠6):W24 w B bm M v0 X Y P w1 γ (listed.setIfInBounds j true) w':=by
 have e2:(listed.setIfInBounds j true).getD 2 false=listed.getD 2 false:=by rw [listed_get hlt,if_neg (by omega)]
 have e5:(listed.setIfInBounds j true).getD 5 false=listed.getD 5 false:=by rw [listed_get hlt,if_neg (by omega)]
 have e6:(listed.setIfInBounds j true).getD 6 false=listed.getD 6 false:=by rw [listed_get hlt,if_neg (by omega)]
 exact ⟨hW.bel,hW.le,hW.mem,by rw [e2];exact hW.ysrc,by rw [e2];exact hW.o0,by rw [e2,e6];exact hW.o1,by rw [e5,e6];exact hW.pd,by rw [e6];exact hW.fin,by rw [e2,e5,e6];exact hW.c6⟩
set_option maxHeartbeats 4000000 in
theorem put24_region {Q':Exit → Act → World → Prop} {a0:Act} {w w1:World} (B bm gy:Nat) (M:Array Value) (v0:Value) (X Y body:List UInt8) (p:Option Addr) (bl c:Nat)
 (hsz:132≤a0.tmps.size) (h8:a0.eval (.tmp 8)=v0) (h11:a0.eval (.tmp 11)=.slice (some ⟨gy,0,none⟩) 512 512) (h1:a0.eval (.tmp 1)=.pointer (some ⟨bm,0,none⟩))
 (hb1:Below w.heap.size w w1) (hmem:Blk w1 bm 26 M) (hM:M[7]? = some (.slice p bl c)) (hbm:w.heap.size≤bm) (hv0:OwnB w1 B v0 X.length X) (hB:bm < B) (hBw:B≤w1.heap.size) (hwB:w.heap.size≤B) (hy:BAt w1 (some ⟨gy,0,none⟩) 512 Y) (hyl:Y.length=512) (hyb:∀ k,v0.ownBlock=some k → k≠gy)
 (hbody:BAt w p bl body) (hbl:body.length=bl) (hbl2:bl≤1048576) (hX:X.length≤10000000)
 (hQ:∀ (γ:put24G) w',OwnB w' B γ.v2 ((X++Y)++padB body).length ((X++Y)++padB body) → Below w.heap.size w w' → Q' .normal ((((((((a0.put (some 125) (v0)).put (some 126) (.slice (some ⟨gy,0,none⟩) 512 512)).put (some 127) (γ.v1)).put (some 128) (.pointer (some ⟨bm,7,none⟩))).put (some 129) (.slice p bl c)).put (some 130) (γ.vp)).put (some 131) (γ.v2)).put (some 2) (γ.v2)) w') :
 wpAny Tryd.prog .any put24Ops Q' put24Ops.size (Array.replicate put24Ops.size false) a0 w1.drew:=by
 have no:∀ j,(Array.replicate put24Ops.size false).getD j false=false:=fun j => by
  rw [Array.getD_eq_getD_getElem?,Array.getElem?_replicate]
  split<;>rfl
 have hpl:=padB_length body;have hpg:=(blocks_ge body.length).2;obtain ⟨P,hP⟩:∃ P,padB body=P:=⟨_,rfl⟩;rw [hP] at hQ hpl;refine wpAny_ghost (Γ:=put24G) (put24V bm gy v0 p bl c) { v1:=undef,vp:=undef,v2:=undef } a0 (fun γ listed w' => W24 w B bm M v0 X Y P w1 γ listed w'∧(listed.getD 7 false=true → listed.getD 6 false=true)) 132 put24_apart hsz ?_ ?_ ?_
 ·intro γ listed a w' j o hRI ho hun hdep
  have hlt:=lt_of_unlisted hun;have hW:=hRI.wd.1
  have hj:j < 8:=by
   have:=(Array.getElem?_eq_some_iff.1 ho).1
   rwa [put24_size] at this
  have same:∀ {j':Nat} {o':Oper},put24Ops[j']? = some o' → j=j' → o'=o:=fun {j' o'} h' e => by subst e;exact Option.some.inj (h'.symm.trans ho)
  have hlf:=getD_flip hun;have hne:∀ i,listed.getD i false=true → i≠j:=fun i hi e => by rw [e,hlf] at hi;cases hi
  rcases (show j=0 ∨ j=1 ∨ j=2 ∨ j=3 ∨ j=4 ∨ j=5 ∨ j=6 ∨ j=7 by omega) with rfl | rfl | rfl | rfl | rfl | rfl | rfl | rfl
  ·obtain ⟨o',ho',hop,hdst⟩:=put24_op0
   obtain rfl:=same ho' rfl;have e0:a.eval (.tmp 8)=v0:=(hRI.old (t:=8) (by kernel_rfl)).trans h8
   exact wp_move _ _ (Or.inl hop) e0 ⟨γ,fun _ _ => rfl,rfl,hW.keep hlt (by decide),(fun hx => by rw [listed_get hlt,if_neg (by decide)] at hx;rw [listed_get hlt];split;rfl;exact hRI.wd.2 hx)⟩
  ·obtain ⟨o',ho',hop,hdst⟩:=put24_op1
   obtain rfl:=same ho' rfl;have e0:a.eval (.tmp 11)=.slice (some ⟨gy,0,none⟩) 512 512:=(hRI.old (t:=11) (by kernel_rfl)).trans h11
   exact wp_move _ _ (Or.inl hop) e0 ⟨γ,fun _ _ => rfl,rfl,hW.keep hlt (by decide),(fun hx => by rw [listed_get hlt,if_neg (by decide)] at hx;rw [listed_get hlt];split;rfl;exact hRI.wd.2 hx)⟩
  ·obtain ⟨o',ho',hop,hdst⟩:=put24_op2
   obtain rfl:=same ho' rfl;have x0:a.eval (.tmp 125)=v0:=(hRI.get ho hdep (i:=0) (d:=125) (by kernel_rfl) rfl)
   have x1:a.eval (.tmp 126)=.slice (some ⟨gy,0,none⟩) 512 512:=(hRI.get ho hdep (i:=1) (d:=126) (by kernel_rfl) rfl)
   have e2:(listed.setIfInBounds 2 true).getD 2 false=true:=by rw [listed_get hlt,if_pos rfl]
   have e5:(listed.setIfInBounds 2 true).getD 5 false=listed.getD 5 false:=by rw [listed_get hlt,if_neg (by decide)]
   have e6:(listed.setIfInBounds 2 true).getD 6 false=listed.getD 6 false:=by rw [listed_get hlt,if_neg (by decide)]
   have hy':=hW.ysrc hlf gy 0 hy hyb
   have n6:listed.getD 6 false=false:=by
    cases hx:listed.getD 6 false with
    | false => rfl
    | true => have:=(hW.c6 hx).1;rw [hlf] at this;cases this
   refine wp_append_bytes _ _ hop B v0 X x0 (hW.o0 hlf) (some ⟨gy,0,none⟩) 512 512 Y x1 hy' hyl (by omega) (Nat.le_trans hBw hW.le) (fun v' w2 g1 g2 g3 => ⟨{ γ with v1:=v' },fun i hi => put24V_v1 _ _ _ _ _ _ _ _ (hne i hi),rfl,?_,fun hx => by rw [listed_get hlt,if_neg (by decide)] at hx;rw [listed_get hlt];split;rfl;exact hRI.wd.2 hx⟩)
   have hk:Kept (fun k => v0.ownBlock=some k) w' w2:=(Kept.refl _ w').grown g2 (fun k hk => .inr hk)
   refine ⟨hW.bel.trans (hk.below hW.bel.size (fun k hk => Nat.le_trans hwB (hv0.lt k hk).1)),Nat.le_trans hW.le hk.size,hW.mem.keptS hk (fun e => by have:=(hv0.lt _ e).1;omega),fun hx => (by rw [e2] at hx;cases hx),fun hx => (by rw [e2] at hx;cases hx),fun _ _ => g1,fun hx _ => ?_,fun hx => (by rw [e6,n6] at hx;cases hx),fun hx => (by rw [e6,n6] at hx;cases hx)⟩
   rw [e5] at hx;exact (hW.pd hx n6).kept hk (fun k hk e => by have h1:=((hW.pd hx n6).lt k hk).1;have h2:=(hv0.lt k e).2;omega)
  ·obtain ⟨o',ho',hop,hdst⟩:=put24_op3
   obtain rfl:=same ho' rfl;have e0:a.eval (.tmp 1)=.pointer (some ⟨bm,0,none⟩):=(hRI.old (t:=1) (by kernel_rfl)).trans h1
   refine wp_run _ ?_ ⟨γ,fun _ _ => rfl,rfl,hW.keep hlt (by decide),(fun hx => by rw [listed_get hlt,if_neg (by decide)] at hx;rw [listed_get hlt];split;rfl;exact hRI.wd.2 hx)⟩
   generalize a.eval=ev at e0 ⊢;simp [go_sem,execOp,hop,e0,put24V]
  ·obtain ⟨o',ho',hop,hdst⟩:=put24_op4
   obtain rfl:=same ho' rfl;have e0:a.eval (.tmp 128)=.pointer (some ⟨bm,7,none⟩):=(hRI.get ho hdep (i:=3) (d:=128) (by kernel_rfl) rfl)
   have q:=hW.mem.cell 7;rw [hM] at q;refine wp_run _ ?_ ⟨γ,fun _ _ => rfl,rfl,hW.keep hlt (by decide),(fun hx => by rw [listed_get hlt,if_neg (by decide)] at hx;rw [listed_get hlt];split;rfl;exact hRI.wd.2 hx)⟩
   generalize a.eval=ev at e0 ⊢;simp [go_sem,execOp,hop,e0,q,put24V]
  ·obtain ⟨o',ho',hop,hdst⟩:=put24_op5
   obtain rfl:=same ho' rfl;have x0:a.eval (.tmp 129)=.slice p bl c:=(hRI.get ho hdep (i:=4) (d:=129) (by kernel_rfl) rfl)
   have e2:(listed.setIfInBounds 5 true).getD 2 false=listed.getD 2 false:=by rw [listed_get hlt,if_neg (by decide)]
   have e5:(listed.setIfInBounds 5 true).getD 5 false=true:=by rw [listed_get hlt,if_pos rfl]
   have e6:(listed.setIfInBounds 5 true).getD 6 false=listed.getD 6 false:=by rw [listed_get hlt,if_neg (by decide)]
   have n6:listed.getD 6 false=false:=by
    cases hx:listed.getD 6 false with
    | false => rfl
    | true => have:=(hW.c6 hx).2;rw [hlf] at this;cases this
   have hcall:=rpadded_any p bl c body w' hbl (by omega) (hbody.below hW.bel)
   refine wp_callE _ _ _ hop #[.slice p bl c] (by simp [x0]) (enters_of Tryd.func24 (by kernel_rfl) rfl) (fun v w2 => OwnB w2 w'.heap.size v (padB body).length (padB body)∧Kept noneB w' w2) (hcall.mono fun e w2 he => by obtain ⟨v,rfl,g1,g2⟩:=he;exact ⟨v,rfl,g1,g2⟩) (fun v w2 hR => ⟨{ γ with vp:=v },fun i hi => put24V_vp _ _ _ _ _ _ _ _ (hne i hi),rfl,?_,fun hx => by rw [listed_get hlt,if_neg (by decide)] at hx;rw [listed_get hlt];split;rfl;exact hRI.wd.2 hx⟩)
   obtain ⟨g1,g2⟩:=hR;rw [hP] at g1;refine ⟨hW.bel.trans (g2.below hW.bel.size (fun _ h => h.elim)),Nat.le_trans hW.le g2.size,hW.mem.keptS g2 id,fun hx b o h1 h2 => ?_,fun hx => ?_,fun hx _ => ?_,fun _ _ => g1.mono hW.le,fun hx => (by rw [e6,n6] at hx;cases hx),fun hx => (by rw [e6,n6] at hx;cases hx)⟩
   ·rw [e2] at hx
    exact (hW.ysrc hx b o h1 h2).kept g2 (fun _ _ _ => id)
   ·rw [e2] at hx
    exact (hW.o0 hx).kept g2 (fun _ _ => id)
   ·rw [e2] at hx
    exact (hW.o1 hx n6).kept g2 (fun _ _ => id)
  ·obtain ⟨o',ho',hop,hdst⟩:=put24_op6
   obtain rfl:=same ho' rfl;have x0:a.eval (.tmp 127)=γ.v1:=(hRI.get ho hdep (i:=2) (d:=127) (by kernel_rfl) rfl)
   have x1:a.eval (.tmp 130)=γ.vp:=(hRI.get ho hdep (i:=5) (d:=130) (by kernel_rfl) rfl)
   have e2:(listed.setIfInBounds 6 true).getD 2 false=listed.getD 2 false:=by rw [listed_get hlt,if_neg (by decide)]
   have e5:(listed.setIfInBounds 6 true).getD 5 false=listed.getD 5 false:=by rw [listed_get hlt,if_neg (by decide)]
   have e6:(listed.setIfInBounds 6 true).getD 6 false=true:=by rw [listed_get hlt,if_pos rfl]
   have l2:listed.getD 2 false=true:=dep_listed ho hdep (by kernel_rfl)
   have l5:listed.getD 5 false=true:=dep_listed ho hdep (by kernel_rfl)
   obtain ⟨pp,pc,hvp,_,_,hpb,_,_⟩:=(hW.pd l5 hlf).slice;rw [hvp] at x1;have hlxy:(X++Y).length≤20000000:=by rw [List.length_append];omega
   have ho1:=hW.o1 l2 hlf;refine wp_append_bytes _ _ hop B γ.v1 (X++Y) x0 ho1 pp P.length pc P x1 hpb rfl (by omega) (Nat.le_trans hBw hW.le) (fun v' w2 g1 g2 g3 => ⟨{ γ with v2:=v' },fun i hi => put24V_v2 _ _ _ _ _ _ _ _ ⟨hne i hi,fun e => ?_⟩,rfl,?_,fun _ => by rw [listed_get hlt,if_pos rfl]⟩)
   ·subst e
    rw [hRI.wd.2 hi] at hlf
    cases hlf
   have hk:Kept (fun k => γ.v1.ownBlock=some k) w' w2:=(Kept.refl _ w').grown g2 (fun k hk => .inr hk)
   exact ⟨hW.bel.trans (hk.below hW.bel.size (fun k hk => Nat.le_trans hwB (ho1.lt k hk).1)),Nat.le_trans hW.le hk.size,hW.mem.keptS hk (fun e => by have:=(ho1.lt _ e).1;omega),fun hx => (by rw [e2,l2] at hx;cases hx),fun hx => (by rw [e2,l2] at hx;cases hx),fun _ hx => (by rw [e6] at hx;cases hx),fun _ hx => (by rw [e6] at hx;cases hx),fun _ => g1,fun _ => ⟨by rw [e2];exact l2,by rw [e5];exact l5⟩⟩
  ·obtain ⟨o',ho',hop,hdst⟩:=put24_op7
   obtain rfl:=same ho' rfl;have e0:a.eval (.tmp 131)=γ.v2:=(hRI.get ho hdep (i:=6) (d:=131) (by kernel_rfl) rfl)
   exact wp_move _ _ (Or.inr hop) e0 ⟨γ,fun _ _ => rfl,rfl,hW.keep hlt (by decide),(fun _ => by rw [listed_get hlt,if_neg (by decide)];exact dep_listed ho hdep (by kernel_rfl))⟩
 ·intro γ listed a w' hRI hall
  have all:∀ j,j < 8 → listed.getD j false=true:=fun j hj => hall j (by rw [put24_size];exact hj)
  have hW:=hRI.wd.1;rw [done_putAllG 132 put24_apart hsz hRI hall,put24_size];simp only [putAll,put24_dst0,put24_dst1,put24_dst2,put24_dst3,put24_dst4,put24_dst5,put24_dst6,put24_dst7,put24V];exact hQ γ w' (hW.fin (all 6 (by omega))) hW.bel
 ·exact ⟨⟨hb1.drew,Nat.le_refl _,hmem.drew,fun _ b o h1 _ => h1.below (Below.refl _ _).drew,fun _ => hv0.kept ((Kept.refl noneB w1).drew) (fun _ _ => id),fun hx => (by rw [no] at hx;cases hx),fun hx => (by rw [no] at hx;cases hx),fun hx => (by rw [no] at hx;cases hx),fun hx => (by rw [no] at hx;cases hx)⟩,fun hx => (by rw [no] at hx;cases hx)⟩
end Go.Proofs.YtnpkcneojilmkaaDoor.Mem
end
