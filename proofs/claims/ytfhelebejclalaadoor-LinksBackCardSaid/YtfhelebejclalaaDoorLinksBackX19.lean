/- Texts of this seat, merged: what the proof reaches. -/
import Derived.RangeFuncNested
import Derived.RangeFuncBound
import Derived.RangeFuncCalls
import Derived.RangeFuncLeaves
import Derived.Shelf.Abstract
import Derived.Shelf.RegionOpen
import Derived.WalkKit
import Derived.OwnWalkIn
import Derived.TacticsInMore
import Derived.LoopNIn
import Derived.LoopIn
import Derived.Test.YtfhelebejclalaaDoorLinksBackX18
import Derived.Test.YtfhelebejclalaaDoorLinksBackX5
import Derived.Test.YtfhelebejclalaaDoorLinksBackX16
import Derived.Test.YtfhelebejclalaaDoorLinksBackX15
import Derived.Laws.ResultCell
import Derived.Deep.DeepCutAuto
namespace Go.Proofs.YtfhelebejclalaaDoor
namespace Base
end Base
namespace Bk
end Bk
namespace Byt
end Byt
namespace Head
end Head
namespace Hp
end Hp
namespace Mem
end Mem
namespace Num
end Num
namespace Path
end Path
namespace Txt
end Txt
end Go.Proofs.YtfhelebejclalaaDoor
section
namespace Go.Proofs.YtfhelebejclalaaDoor.Path
open Go.ChangeShapes Go.WideShapes Go.ChangeAt Go.RowKit Go.Shelf Base Byt Txt Go.Lib Num
set_option linter.unusedVariables false
set_option maxRecDepth 100000
attribute [local go_sem] Oper.semAt_some
theorem abides_drewN {β:Type} {B:Nat} {J:β → World → Prop} (h:AbidesFrom B J) {s:β} {w:World} (hs:J s w) (n:Nat):J s (w.drewN n):=
 match n with
 | 0 => hs
 | n+1 => h s (w.drewN n) _ none (abides_drewN h hs n) ⟨rfl,rfl,rfl,Nat.le_refl _,fun _ _ _ => rfl⟩ (fun r e => by cases e)
def leftL (m:Bool) (l:List UInt8):List (List UInt8):=if m then partsL l else []
theorem left_cut (l:List UInt8):leftL true l=(cutL l).1 :: leftL (cutL l).2.2 (cutL l).2.1:=by
 unfold leftL cutL;rw [if_pos rfl];obtain ⟨h1,h2⟩:=parts_cut l
 by_cases h:0≤Lib.indexByte l 47
 ·rw [if_pos h,h1 h]
  simp
 ·rw [if_neg h,h2 h]
  simp
theorem cut_less (l:List UInt8):(cutL l).2.1.length+(if (cutL l).2.2 then 1 else 0) < l.length+1:=by
 unfold cutL
 by_cases h:0≤Lib.indexByte l 47
 ·rw [if_pos h]
  obtain ⟨k,hk⟩:∃ k:Nat,Lib.indexByte l 47=k:=⟨(Lib.indexByte l 47).toNat,by omega⟩
  have hlt:=(List.getElem?_eq_some_iff.1 (Lib.indexByte_some hk).1).1;simp only [List.length_drop,hk,Int.toNat_natCast,if_true];omega
 ·rw [if_neg h]
  simp
def leftN (r m:Value):Nat:=(match r with | .string s => s.size | _ => 0)+(match m with | .bool true => 1 | _ => 0)
abbrev Part:={ x:List UInt8 // x.length≤140737488351232 }
theorem parts_len (l:List UInt8):∀ p ∈ partsL l,p.length≤l.length:=by
 induction l with
 | nil => simp [partsL]
 | cons b l ih =>
   unfold partsL
   by_cases hb:b=47
   ·rw [if_pos hb]
    intro p hp;rcases List.mem_cons.1 hp with rfl | hp
    ·simp
    ·have:=ih p hp;rw [List.length_cons];omega
   ·rw [if_neg hb]
    cases hq:partsL l with
    | nil => exact absurd hq (parts_ne l)
    | cons q qs =>
      rw [hq] at ih;intro p hp;rcases List.mem_cons.1 hp with rfl | hp
      ·have:=ih q (by simp)
       simp only [List.headD_cons,List.length_cons];omega
      ·have:=ih p (List.mem_cons_of_mem _ hp);rw [List.length_cons];omega
theorem some_parts (s:List UInt8) (hm:s.length≤140737488351232):∃ ps:List Part,ps.map (·.1)=partsL s:=by
 refine ⟨(partsL s).attachWith _ (fun p hp => Nat.le_trans (parts_len s p hp) hm),?_⟩
 simp
set_option maxHeartbeats 1000000 in
theorem seq_in (F:Fence) (n:Nat) (hF:F=Fence.wide) (hn:1≤n) (l Bn:Nat) (s:List UInt8) (hm:s.length≤140737488351232) (ps:List Part) (hps:ps.map (·.1)=partsL s) (J Jx:List Part → World → Prop) (B:Nat) (hJ:AbidesFrom B J)
 (hY:∀ pre x W,J pre W → pre.length < ps.length → YieldAt F (n - 1) Tryd.prog l #[.string (str x.1)] W fun e W' =>
  (e=.returned (.bool true)∧J (pre++[x]) W'∧True) ∨ (e=.returned (.bool false)∧Jx (pre++[x]) W'))
 (W:World) (hBn:W.cell? ⟨Bn,0,none⟩=some (.string (str s))) (h0:J [] W) :
 CallsIn F n Tryd.prog 66 #[.func (.yield l) #[] #[],.pointer (some ⟨Bn,0,none⟩)] W fun e W' => (∃ v,e=.returned v) ∧
  ((∃ ys,ys=ps∧J ys W') ∨ (∃ pre,pre <+: ps∧Jx pre W')):=by
 subst hF;refine callsIn_of_wp Tryd.func66 rfl trivial ?_ rfl;simp only [Tryd.ntmps66,List.size_toArray,List.length_cons,List.length_nil,Nat.reduceAdd,Nat.reduceSub,Array.replicate_succ,Array.replicate_zero,List.push_toArray,List.append_toArray,List.nil_append,List.cons_append]
 gi_wp2
 gi_loopw [3,4] (fun r m wr => ∃ (pre tl:List Part) (rest:List UInt8) (b:Bool),r=.string (str rest)∧m=.bool b∧Hid (ps=pre++tl∧tl.map (·.1)=leftL b rest)∧rest.length≤140737488351232∧J pre wr)
  (fun r m wr => leftN r m)
 case atStart => exact ⟨[],ps,s,true,rfl,rfl,⟨rfl,hps⟩,hm,h0⟩
 case round =>
  obtain ⟨pre,tl,rest,b,rfl,rfl,hx,hr,hJs⟩:=hrel
  cases b with
  | false =>
    gi_wp2
    go_end0
    exact ⟨⟨_,rfl⟩,.inl ⟨pre,by obtain ⟨h1,h2⟩:=hx.out;obtain rfl:tl=[]:=List.map_eq_nil_iff.1 h2;simp [h1],hJs⟩⟩
  | true =>
    obtain ⟨hx1,hx2⟩:=hx.out;rw [left_cut] at hx2
    obtain ⟨x,tl',htl⟩:∃ x tl',tl=x :: tl':=by
     cases tl with
     | nil => simp at hx2
     | cons x tl' => exact ⟨x,tl',rfl⟩
    rw [htl,List.map_cons,List.cons.injEq] at hx2;have hc:=cutSlash_any rest wr hr;have hl:=cut_less rest;have hsz:(str rest).size=rest.length:=str_size rest;obtain ⟨p,hp⟩:∃ p:List UInt8,p=x.1:=⟨_,rfl⟩;obtain ⟨q,hq⟩:∃ q,q=(cutL rest).2.1:=⟨_,rfl⟩;obtain ⟨b,hb⟩:∃ b,b=(cutL rest).2.2:=⟨_,rfl⟩;rw [← hx2.1,← hp,← hq,← hb] at hc;rw [← hq,← hb] at hx2;rw [htl] at hx1;rw [← hq,← hb] at hl;have HX:=Lib.hid (And.intro hx1 hx2.2);have HL:=Lib.hid hl;have HS:=Lib.hid hsz
    have hgo0:∀ k,YieldAt Fence.wide (n - 1) Tryd.prog l #[.string (str x.1)] (wr.drewN k) fun e W' =>
     (e=.returned (.bool true)∧J (pre++[x]) W'∧True) ∨ (e=.returned (.bool false)∧Jx (pre++[x]) W'):=
     fun k => hY pre x _ (abides_drewN hJ hJs k) (by rw [hx1];simp)
    rw [← hp] at hgo0;clear hp hq hb hx1 hx2 hl hsz hx htl hY
    gi_wp2_with (refine ⟨trivial,?_⟩;gi_at_call 67;refine (callsIn_wide.2 hc).mono ?_;rintro e w' ⟨rfl,k,rfl⟩;obtain ⟨fn,tmps,assign,body,hy,hR⟩:=hgo0 k)
    refine hR.mono ?_
    rintro e W3 (⟨rfl,hJ3,-⟩ | ⟨rfl,hJx3⟩)
    ·gi_wp2
     go_roundw
     case rel => exact ⟨pre++[x],tl',q,b,rfl,rfl,⟨by rw [HX.out.1];simp,HX.out.2⟩,by have:=HL.out;omega,hJ3⟩
     case measure =>
      have h1:=HL.out;have h2:=HS.out;have h3:(str q).size=q.length:=str_size q
      cases b<;>simp [leftN,h2,h3] at h1 ⊢<;>omega
    ·gi_wp2
     refine bodyPost_ret (results_none rfl _ _ _) rfl ?_
     exact ⟨⟨_,rfl⟩,.inr ⟨pre++[x],by rw [HX.out.1];exact ⟨tl',by simp⟩,hJx3⟩⟩
theorem seq_stops (n:Nat) (hn:1≤n) (Bn:Nat) (s:List UInt8) (hm:s.length≤140737488351232) (ps:List Part) (hps:ps.map (·.1)=partsL s) (w:World) (hBn:Bn < w.heap.size) (hc:w.cell? ⟨Bn,0,none⟩=some (.string (str s))) :
 SeqStopsK Fence.wide n Tryd.prog 66 #[.pointer (some ⟨Bn,0,none⟩)] (fun x:Part => #[Value.string (str x.1)]) (fun _ _ => True) (fun ys => ys=ps) (fun pre => pre <+: ps) ps.length w:=fun l J Jx W hW hJ _ hY h0 =>
 seq_in Fence.wide n rfl hn l Bn s hm ps hps J Jx _ hJ hY W ((hW.cell (p:=⟨Bn,0,none⟩) hBn).trans hc) h0
theorem parts_any (s:List UInt8) (w:World) :
 Calls Tryd.prog 56 #[.string (str s)] w fun e w' => e=.returned (.func (.func 66) #[] #[.pointer (some ⟨w.heap.size,0,none⟩)])∧w'=w.alloc (.cells #[.string (str s)] 9):=by
 go_enter Tryd.func56,Tryd.ntmps56
 go_wp2
 go_ret
 exact ⟨rfl,rfl⟩
end Go.Proofs.YtfhelebejclalaaDoor.Path
end
section
namespace Go.Proofs.YtfhelebejclalaaDoor.Path
open Go.ChangeShapes Go.WideShapes Go.ChangeAt Go.RowKit Go.Shelf Base Byt Txt Go.Lib Num
set_option linter.unusedVariables false
set_option maxRecDepth 100000
attribute [local go_sem] Oper.semAt_some
theorem goP_app (a b:List (List UInt8)):∀ c,goP c (a++b)=(goP c a).bind fun d => goP d b:=by
 induction a with
 | nil => intro c;rfl
 | cons p a ih =>
   intro c;rw [List.cons_append,goP,goP]
   split
   ·rfl
   ·exact ih _
theorem goP_snoc (pre:List (List UInt8)) (p c d:List UInt8) (h:goP c pre=some d):goP c (pre++[p])=if p=[46,46] ∨ 200 < (joinP d p).length then none else some (joinP d p):=by
 rw [goP_app,h,Option.bind_some];unfold goP
 split<;>rfl
theorem goP_le (ps:List (List UInt8)):∀ c d,c.length≤200 → goP c ps=some d → d.length≤200:=by
 induction ps with
 | nil => intro c d hc h;cases h;exact hc
 | cons p ps ih =>
   intro c d hc h;unfold goP at h
   split at h
   ·cases h
   ·next hn => exact ih _ _ (by rcases Nat.lt_or_ge 200 (joinP c p).length with h' | h';exact absurd (.inr h') hn;exact h') h
theorem goP_none (a b:List (List UInt8)) (h:goP [] a=none):goP [] (a++b)=none:=by rw [goP_app,h];rfl
theorem head_slash_iff (l:List UInt8):Lib.hasPrefix l [47]=decide (l.head? = some 47):=by
 cases l with
 | nil => simp [Lib.hasPrefix]
 | cons b t =>
   by_cases h:b=47
   ·subst h;simp [Lib.hasPrefix]
   ·have h':¬ (47:UInt8)=b:=fun e => h e.symm
    simp [Lib.hasPrefix,List.isPrefixOf,h,h']
def Cell (W:World) (b:Nat) (v:Value):Prop:=W.cell? ⟨b,0,none⟩=some v∧W.frozen? ⟨b,0,none⟩=false
theorem Cell.kept {W W':World} {b:Nat} {v:Value} (h:Cell W b v) {row:Option Nat} (hg:W.grownBy W' row) (hr:∀ r,row=some r → ∃ o:Obj,W.heap[r]? = some o∧o.isCells=false):Cell W' b v:=
 ⟨cell_kept h.1 hg hr,(frozen_kept h.1 hg hr).trans h.2⟩
theorem Cell.below {W W':World} {b n:Nat} {v:Value} (h:Cell W b v) (hb:Below n W W') (hn:b < n):Cell W' b v:=
 ⟨(hb.cell (p:=⟨b,0,none⟩) hn).trans h.1,(hb.frozen (p:=⟨b,0,none⟩) hn).trans h.2⟩
theorem Cell.new (W:World) (v:Value) (t:TypeId):Cell (W.alloc (.cells #[v] t)) W.heap.size v:=by
 have h:=World.alloc_heap_new W (.cells #[v] t);unfold Cell World.cell? World.frozen?;rw [h];exact ⟨rfl,rfl⟩
theorem Cell.alloc {W:World} {b:Nat} {v:Value} (h:Cell W b v) (o:Obj):Cell (W.alloc o) b v:=h.kept (World.grownBy_alloc W o none) (fun r e => by cases e)
theorem Cell.set {W:World} {b:Nat} {v:Value} (h:Cell W b v) (u:Value):Cell (W.setCell ⟨b,0,none⟩ u) b u:=
 ⟨World.cell?_setCell_same' _ _ _ (by rw [h.1];rfl),by rw [World.frozen?_setCell];exact h.2⟩
theorem Cell.other {W:World} {b b':Nat} {v:Value} (h:Cell W b v) (u:Value) (hne:b'≠b):Cell (W.setCell ⟨b',0,none⟩ u) b v:=
 ⟨(World.cell?_setCell_other _ _ _ _ (fun e => hne (congrArg Addr.block e))).trans h.1,by rw [World.frozen?_setCell];exact h.2⟩
def restD (P:Int) (l:List UInt8):List UInt8 × Int:=
 if l.head? = some 47 then ([],P) else match goP [] (partsL l) with | none => ([],P) | some a => if a=[] then ([],P) else (a,0)
theorem clean_rest (T P:Int) (l:List UInt8):cleanD T P l=if textD l=false then ([],T) else restD P l:=clean_goP T P l
theorem ret_cells (W:World) (tm:Array Value) (b0 b1:Nat) (s:ByteArray) (e:Int) (h0:tm[2]? = some (.pointer (some ⟨b0,0,none⟩))) (h1:tm[3]? = some (.pointer (some ⟨b1,0,none⟩)))
 (c0:Cell W b0 (.string s)) (c1:Cell W b1 (.int .i64 e)):(results Tryd.f46 tm).run Tryd.prog W=.ok (.tuple #[.string s,.int .i64 e]) W:=by
 obtain ⟨c00,c01⟩:=c0;obtain ⟨c10,c11⟩:=c1;simp [results,Tryd.f46,go_sem,h0,h1,c00,c10]
set_option maxHeartbeats 2000000 in
theorem clean_any (l:List UInt8) (w:World) (hm:l.length≤140737488351232) (hT:Tabs w) :
 Calls Tryd.prog 46 #[.string (str l)] w fun e w' => e=.returned (.tuple #[.string (str (cleanD 9 6 l).1),.int .i64 (cleanD 9 6 l).2])∧Below w.heap.size w w':=by
 have hR:=fun w hT => right_any l w hm hT
 have hP:=fun w => Any.strings_HasPrefix Tryd.laysPrefix (str l) ⟨#[47]⟩ w
 rw [clean_rest];simp only [str_data,head_slash_iff] at hP;refine (callsIn_wide (n:=3)).1 ?_
 refine callsIn_of_wp_marks Tryd.func46 rfl trivial ?_ rfl;simp only [Tryd.ntmps46,List.size_toArray,List.length_cons,List.length_nil,Nat.reduceAdd,Nat.reduceSub,Array.replicate_succ,Array.replicate_zero,List.push_toArray,List.append_toArray,List.nil_append,List.cons_append];have hB0:Below w.heap.size w ((w.alloc (.cells #[.string ⟨#[]⟩] 9)).alloc (.cells #[.int .i64 0] 29)):=((Below.refl _ _).alloc (Nat.le_refl _) _).alloc (by simp) _
 have hT0:=hT.below hB0;have c0:Cell ((w.alloc (.cells #[.string ⟨#[]⟩] 9)).alloc (.cells #[.int .i64 0] 29)) w.heap.size (.string ⟨#[]⟩):=(Cell.new w _ _).alloc _
 have c1:Cell ((w.alloc (.cells #[.string ⟨#[]⟩] 9)).alloc (.cells #[.int .i64 0] 29)) (w.heap.size+1) (.int .i64 0):=by
  have:=Cell.new (w.alloc (.cells #[.string ⟨#[]⟩] 9)) (.int .i64 0) 29
  rwa [World.size_alloc] at this
 have HC:=Lib.hid (And.intro c0 c1);have HB:=Lib.hid hB0;clear c0 c1 hB0 hT
 cases ht:textD l with
 | false =>
   rw [if_pos rfl];have hR':=hR _ hT0;rw [ht] at hR'
   gi_wp2_with fail
   refine ⟨trivial,(callsIn_wide.2 hR').mono ?_⟩;rintro e w1 ⟨rfl,hb⟩;simp only [World.size_alloc] at hb;obtain ⟨d00,d01⟩:=HC.out.1.below hb (by omega)
   obtain ⟨d10,d11⟩:=HC.out.2.below hb (by omega)
   have HB1:=Lib.hid (HB.out.trans (hb.mono (by omega)))
   clear hb hR' hT0 hR hP
   gi_wp2_with fail
   refine ⟨_,ret_cells _ _ w.heap.size (w.heap.size+1) ⟨#[]⟩ 9 rfl rfl (((show Cell w1 w.heap.size _ from ⟨d00,d01⟩).set _).other _ (by omega)) (((show Cell w1 (w.heap.size+1) _ from ⟨d10,d11⟩).other _ (by omega)).set _),rfl,?_⟩
   exact (HB1.out.setCell (p:=⟨w.heap.size,0,none⟩) (Nat.le_refl _) _).setCell (p:=⟨w.heap.size+1,0,none⟩) (by simp) _
 | true =>
   rw [if_neg (by simp)]
   have hR':=hR _ hT0;rw [ht] at hR';obtain ⟨G,hG⟩:∃ G,restD 6 l=G:=⟨_,rfl⟩;rw [hG];unfold restD at hG;have HG:=Lib.hid hG;clear hG
   gi_wp2_with fail
   refine ⟨trivial,(callsIn_wide.2 hR').mono ?_⟩;rintro e w1 ⟨rfl,hb⟩;simp only [World.size_alloc] at hb;have d0:=HC.out.1.below hb (by omega)
   have d1:=HC.out.2.below hb (by omega)
   have HS1:Hid (w.heap.size+2≤w1.heap.size):=Lib.hid (by have:=hb.size;rw [World.size_alloc,World.size_alloc] at this;omega)
   have HB1:=Lib.hid (HB.out.trans (hb.mono (by omega)))
   clear hb hR' hT0 hR;have hP':=hP w1;clear hP
   by_cases h0:l.head? = some 47
   ·obtain rfl:([],6)=G:=by rw [← HG.out,if_pos h0]
    rw [decide_eq_true h0] at hP';clear h0;obtain ⟨d00,d01⟩:=d0;obtain ⟨d10,d11⟩:=d1
    gi_wp2_with fail
    refine ⟨trivial,(callsIn_wide.2 hP').mono ?_⟩;rintro e w' ⟨rfl,rfl⟩
    gi_wp2_with fail
    refine ⟨_,ret_cells _ _ w.heap.size (w.heap.size+1) ⟨#[]⟩ 6 rfl rfl (((show Cell w' w.heap.size _ from ⟨d00,d01⟩).set _).other _ (by omega)) (((show Cell w' (w.heap.size+1) _ from ⟨d10,d11⟩).other _ (by omega)).set _),rfl,?_⟩
    exact (HB1.out.setCell (p:=⟨w.heap.size,0,none⟩) (Nat.le_refl _) _).setCell (p:=⟨w.heap.size+1,0,none⟩) (by simp) _
   ·have hG:=HG.out
    rw [if_neg h0] at hG;rw [decide_eq_false h0] at hP';have HG2:=Lib.hid hG;clear h0 HG hG;have HD:=Lib.hid (And.intro d0 d1);clear d0 d1
    gi_wp2_with fail
    refine ⟨trivial,(callsIn_wide.2 hP').mono ?_⟩;rintro e w' ⟨rfl,rfl⟩
    gi_wp2_with fail
    have HB2:Hid (Below w.heap.size w ((w'.alloc (.cells #[.string ⟨#[]⟩] 9)).alloc (.cells #[.string (str l)] 9))):=
     Lib.hid ((HB1.out.alloc (by have:=HS1.out;omega) _).alloc (by have:=HS1.out;rw [World.size_alloc];omega) _)
    have HX:=Lib.hid (((Cell.new w' (.string ⟨#[]⟩) 9)).alloc (.cells #[.string (str l)] 9));have HY:=Lib.hid (And.intro ((HD.out.1.alloc (.cells #[.string ⟨#[]⟩] 9)).alloc (.cells #[.string (str l)] 9)) ((HD.out.2.alloc (.cells #[.string ⟨#[]⟩] 9)).alloc (.cells #[.string (str l)] 9)));have HZ:=Lib.hid (Cell.new (w'.alloc (.cells #[.string ⟨#[]⟩] 9)) (.string (str l)) 9);clear HB1 HD HC;obtain ⟨ps,hps⟩:=some_parts l hm;refine ⟨trivial,(callsIn_wide.2 (parts_any l _)).mono ?_⟩;rintro e w2 ⟨rfl,rfl⟩
    gi_wp2_with fail
    obtain ⟨n1,hn1⟩:∃ n1,w'.heap.size=n1:=⟨_,rfl⟩;obtain ⟨W0,hW0⟩:∃ W0,(w'.alloc (.cells #[.string ⟨#[]⟩] 9)).alloc (.cells #[.string (str l)] 9)=W0:=⟨_,rfl⟩;have HN:Hid (W0.heap.size=n1+2∧w.heap.size+2≤n1):=Lib.hid (by rw [← hW0,World.size_alloc,World.size_alloc];exact ⟨by omega,by have:=HS1.out;omega⟩)
    rw [hW0] at HB2 HX HY HZ ⊢;rw [World.size_alloc] at HZ;rw [hn1] at HX HZ ⊢;clear hW0 HS1 hn1 HB
    refine wpIn_rangeFunc_ownF rfl (by omega) (gf:=66) (lb:=#[.pointer (some ⟨n1+1,0,none⟩)]) rfl trivial (enters_of Tryd.func66 (by kernel_rfl) rfl)
     (seq_stops _ (by omega) (n1+1) l hm ps hps W0 (by rw [HN.out.1];omega) HZ.out.1) (fun _ _ => trivial) (fun _ _ _ _ _ _ _ _ => trivial) (Below.refl _ _) (fun _ => rfl)
     (fun pre W => (∃ c,goP [] (pre.map (·.1))=some c∧Cell W n1 (.string (str c))∧Cell W w.heap.size (.string ⟨#[]⟩)∧Cell W (w.heap.size+1) (.int .i64 0))∧Below w.heap.size w W)
     (fun c pre W => (c=.ret∧goP [] (pre.map (·.1))=none∧Cell W w.heap.size (.string ⟨#[]⟩)∧Cell W (w.heap.size+1) (.int .i64 6))∧Below w.heap.size w W)
     (OwnFrom.and (Own.from (fun s A B row hs hg hr => by obtain ⟨c,h1,h2,h3,h4⟩:=hs;exact ⟨c,h1,h2.kept hg hr,h3.kept hg hr,h4.kept hg hr⟩) _) (ownFrom_below (Nat.le_refl _) (by rw [HN.out.1];have:=HN.out.2;omega)))
     (fun c => OwnFrom.and (Own.from (fun s A B row hs hg hr => ⟨hs.1,hs.2.1,hs.2.2.1.kept hg hr,hs.2.2.2.kept hg hr⟩) _) (ownFrom_below (Nat.le_refl _) (by rw [HN.out.1];have:=HN.out.2;omega)))
     ⟨⟨[],rfl,HX.out,HY.out.1,HY.out.2⟩,HB2.out⟩
     (fun x => { tmps:=#[.string (str l),undef,.pointer (some ⟨w.heap.size,0,none⟩),.pointer (some ⟨w.heap.size+1,0,none⟩),.pointer (some ⟨n1,0,none⟩),.string (str x.1),.string (str l),.bool true,.bool false,.string (str l),.bool false,.string (str l),.func (.func 66) #[] #[.pointer (some ⟨n1+1,0,none⟩)],.string (str x.1),undef,undef,undef,undef,undef,undef,undef,undef,undef,undef,undef,undef,undef],defers:=[] }) ?assign ?body ?done ?stop
    case assign =>
     intro l x W K hK
     gi_wp2
     exact hK
    case body =>
     rintro l' pre x W ⟨⟨c,hg,c0,c1,c2⟩,hB⟩ _;have hc:=goP_le _ _ _ (by simp) hg
     have hj:=join_any c x.1 W (by have:=x.2;omega)
     have hs:=goP_snoc _ x.1 _ _ hg;obtain ⟨d,hd⟩:∃ d,joinP c x.1=d:=⟨_,rfl⟩;rw [hd] at hj hs;have e0:=(c0.set (.string (str d)));have e1:=(c1.other (.string (str d)) (show n1≠_ by have:=HN.out.2;omega))
     have e2:=(c2.other (.string (str d)) (show n1≠_ by have:=HN.out.2;omega))
     have hB1:=hB.setCell (p:=⟨n1,0,none⟩) (show w.heap.size≤n1 by have:=HN.out.2;omega) (.string (str d))
     have HE:=Lib.hid (And.intro e1 (And.intro e2 hB1));have hsz:((str d).size:Int)=d.length:=by rw [str_size]
     obtain ⟨f0,f1⟩:=c0;have HP:=Lib.hid hd
     by_cases hx:x.1=[46,46]
     ·have b1:((str x.1).toList == [46,46])=true:=by rw [str_is];simpa using hx
      rw [if_pos (.inl hx)] at hs;have hs':goP [] ((pre++[x]).map (·.1))=none:=by rw [List.map_append];exact hs
      have HS':=Lib.hid hs';clear hs hs' hx hd hg hc e1 e2 c1 c2 hB hB1 hsz
      gi_wp2_with fail
      refine ⟨trivial,(CallsIn.inRound l' (callsIn_wide.2 hj)).mono ?_⟩;rintro e w3 ⟨rfl,rfl⟩;obtain ⟨e00,e01⟩:=e0;obtain ⟨g00,g01⟩:=HE.out.1;obtain ⟨g10,g11⟩:=HE.out.2.1
      gi_wp2
      exact ⟨((KeepsOthers.setCell _ _ _).trans (KeepsOthers.setCell _ _ _)).trans (KeepsOthers.setCell _ _ _),⟨rfl,HS'.out,(HE.out.1.set _).other _ (by omega),(HE.out.2.1.other _ (by omega)).set _⟩,(HE.out.2.2.setCell (p:=⟨w.heap.size,0,none⟩) (Nat.le_refl _) _).setCell (p:=⟨w.heap.size+1,0,none⟩) (by simp) _⟩
     ·have b1:((str x.1).toList == [46,46])=false:=by rw [str_is];simpa using hx
      obtain ⟨n,hn⟩:∃ n,(str d).size=n:=⟨_,rfl⟩
      by_cases h2:200 < d.length
      ·have b2:(200:Int) < (n:Int):=by omega
       rw [if_pos (.inr h2)] at hs;have hs':goP [] ((pre++[x]).map (·.1))=none:=by rw [List.map_append];exact hs
       have HS':=Lib.hid hs';clear hs hs' hx hd hg hc e1 e2 c1 c2 hB hB1 hsz h2
       gi_wp2_with fail
       refine ⟨trivial,(CallsIn.inRound l' (callsIn_wide.2 hj)).mono ?_⟩;rintro e w3 ⟨rfl,rfl⟩;obtain ⟨e00,e01⟩:=e0;obtain ⟨g00,g01⟩:=HE.out.1;obtain ⟨g10,g11⟩:=HE.out.2.1
       gi_wp2
       exact ⟨((KeepsOthers.setCell _ _ _).trans (KeepsOthers.setCell _ _ _)).trans (KeepsOthers.setCell _ _ _),⟨rfl,HS'.out,(HE.out.1.set _).other _ (by omega),(HE.out.2.1.other _ (by omega)).set _⟩,(HE.out.2.2.setCell (p:=⟨w.heap.size,0,none⟩) (Nat.le_refl _) _).setCell (p:=⟨w.heap.size+1,0,none⟩) (by simp) _⟩
      ·have b2:¬ (200:Int) < (n:Int):=by omega
       rw [if_neg (fun h => h.elim hx h2)] at hs
       have hs':goP [] ((pre++[x]).map (·.1))=some d:=by rw [List.map_append];exact hs
       have HS':=Lib.hid hs';clear hs hs' hx hd hg hc e1 e2 c1 c2 hB hB1 hsz h2
       gi_wp2_with fail
       refine ⟨trivial,(CallsIn.inRound l' (callsIn_wide.2 hj)).mono ?_⟩;rintro e w3 ⟨rfl,rfl⟩;obtain ⟨e00,e01⟩:=id e0;obtain ⟨g00,g01⟩:=HE.out.1;obtain ⟨g10,g11⟩:=HE.out.2.1
       gi_wp2
       exact ⟨KeepsOthers.setCell _ _ _,trivial,⟨d,HS'.out,e0,HE.out.1,HE.out.2.1⟩,HE.out.2.2⟩
    case done =>
     rintro D ys W hD rfl ⟨⟨c,hg,c0,c1,c2⟩,hB⟩ hK;rw [hps] at hg;have hG:=HG2.out;rw [hg] at hG;simp only at hG;have hDw:w.heap.size≤D:=by have:=HN.out;omega
     obtain ⟨f0,f1⟩:=id c0;obtain ⟨g00,g01⟩:=id c1;obtain ⟨g10,g11⟩:=id c2;have HE:=Lib.hid (And.intro c1 (And.intro c2 hB));have HK:=Lib.hid hK
     by_cases hc:c=[]
     ·have b1:(str c).toList.isEmpty=true:=by rw [str_empty];simpa using hc
      obtain rfl:([],6)=G:=by rw [← hG,if_pos hc]
      clear hG hc hg HG2 c0 c1 c2 hB hK
      gi_wp2
      have hK':=((KeepsOthers.setCell W ⟨w.heap.size,0,none⟩ (.string ⟨#[]⟩)).trans (KeepsOthers.setCell _ ⟨w.heap.size+1,0,none⟩ (.int .i64 6))).same D _ HK.out rfl;refine ⟨by simp,.inl ⟨_,_,rfl,run_takeDeferred hK',?_⟩⟩
      have k0:=((HE.out.1.set (.string ⟨#[]⟩)).other (.int .i64 6) (show w.heap.size+1≠_ by omega)).kept (grownBy_putObj' _ D (.deferred none)) (fun r e => by cases e;exact ⟨_,hK',rfl⟩)
      have k1:=((HE.out.2.1.other (.string ⟨#[]⟩) (show w.heap.size≠_ by omega)).set (.int .i64 6)).kept (grownBy_putObj' _ D (.deferred none)) (fun r e => by cases e;exact ⟨_,hK',rfl⟩)
      exact ⟨_,ret_cells _ _ w.heap.size (w.heap.size+1) ⟨#[]⟩ 6 rfl rfl k0 k1,rfl,((HE.out.2.2.setCell (p:=⟨w.heap.size,0,none⟩) (Nat.le_refl _) _).setCell (p:=⟨w.heap.size+1,0,none⟩) (by simp) _).trans (belowK_b (w:=w) (Nat.le_refl _) _ D _ _ hDw hK' rfl rfl)⟩
     ·have b1:(str c).toList.isEmpty=false:=by rw [str_empty];simpa using hc
      obtain rfl:(c,0)=G:=by rw [← hG,if_neg hc]
      clear hG hc hg HG2 c0 c1 c2 hB hK
      gi_wp2
      have hK':=((KeepsOthers.setCell W ⟨w.heap.size,0,none⟩ (.string (str c))).trans (KeepsOthers.setCell _ ⟨w.heap.size+1,0,none⟩ (.int .i64 0))).same D _ HK.out rfl;refine ⟨by simp,.inl ⟨_,_,rfl,run_takeDeferred hK',?_⟩⟩
      have k0:=((HE.out.1.set (.string (str c))).other (.int .i64 0) (show w.heap.size+1≠_ by omega)).kept (grownBy_putObj' _ D (.deferred none)) (fun r e => by cases e;exact ⟨_,hK',rfl⟩)
      have k1:=((HE.out.2.1.other (.string (str c)) (show w.heap.size≠_ by omega)).set (.int .i64 0)).kept (grownBy_putObj' _ D (.deferred none)) (fun r e => by cases e;exact ⟨_,hK',rfl⟩)
      exact ⟨_,ret_cells _ _ w.heap.size (w.heap.size+1) (str c) 0 rfl rfl k0 k1,rfl,((HE.out.2.2.setCell (p:=⟨w.heap.size,0,none⟩) (Nat.le_refl _) _).setCell (p:=⟨w.heap.size+1,0,none⟩) (by simp) _).trans (belowK_b (w:=w) (Nat.le_refl _) _ D _ _ hDw hK' rfl rfl)⟩
    case stop =>
     rintro D c pre W hD hpre ⟨⟨rfl,hn,c1,c2⟩,hB⟩ hK;have hG:=HG2.out;obtain ⟨tl,htl⟩:=hpre;rw [← hps,← htl,List.map_append,goP_none _ _ hn] at hG;obtain rfl:([],6)=G:=hG;have hDw:w.heap.size≤D:=by have:=HN.out;omega
     have HE:=Lib.hid (And.intro c1 (And.intro c2 hB));have HK:=Lib.hid hK;clear htl hn HG2 c1 c2 hB hK
     gi_wp2
     have hK':=HK.out;refine ⟨by simp,.inl ⟨_,_,rfl,run_takeDeferred hK',?_⟩⟩
     have k0:=HE.out.1.kept (grownBy_putObj' _ D (.deferred none)) (fun r e => by cases e;exact ⟨_,hK',rfl⟩)
     have k1:=HE.out.2.1.kept (grownBy_putObj' _ D (.deferred none)) (fun r e => by cases e;exact ⟨_,hK',rfl⟩)
     exact ⟨_,ret_cells _ _ w.heap.size (w.heap.size+1) ⟨#[]⟩ 6 rfl rfl k0 k1,rfl,HE.out.2.2.trans (belowK_b (w:=w) (Nat.le_refl _) _ D _ _ hDw hK' rfl rfl)⟩
end Go.Proofs.YtfhelebejclalaaDoor.Path
end
section
namespace Go.Proofs.YtfhelebejclalaaDoor.Mem
open Go.ChangeShapes Go.WideShapes Go.ChangeAt Go.RowKit Base Byt Txt Bk Hp Head Num Path Go.Lib
set_option linter.unusedVariables false
set_option maxRecDepth 100000
theorem u8_lit (k:UInt8) (n:Nat) (hn:n < 256):((k.toNat:Int)=(n:Int)) ↔ k=UInt8.ofNat n:=by
 constructor
 ·intro h
  apply UInt8.toNat.inj;rw [UInt8.toNat_ofNat'];omega
 ·rintro rfl
  rw [UInt8.toNat_ofNat'];omega
theorem known_any (k:UInt8) (w:World) :
 Calls Tryd.prog 39 #[.int .u8 (k.toNat:Int)] w fun e w' => e=.returned (.bool (knownD k))∧w=w':=by
 have hb:=k.toNat_lt;have e0:(k.toNat:Int)=48 ↔ k=48:=u8_lit k 48 (by decide)
 have e1:(k.toNat:Int)=49 ↔ k=49:=u8_lit k 49 (by decide)
 have e2:(k.toNat:Int)=50 ↔ k=50:=u8_lit k 50 (by decide)
 have e3:(k.toNat:Int)=53 ↔ k=53:=u8_lit k 53 (by decide)
 obtain ⟨r,hr⟩:∃ r,knownD k=r:=⟨_,rfl⟩;rw [hr];unfold knownD at hr;obtain ⟨x,hx⟩:∃ x:Int,x=(k.toNat:Int):=⟨_,rfl⟩;rw [← hx] at e0 e1 e2 e3 ⊢
 by_cases h0:x=48
 ·obtain rfl:r=true:=by rw [← hr];simp [e0.1 h0]
  clear e0 e1 e2 e3 hr hx hb;subst h0
  go_enter Tryd.func39,Tryd.ntmps39
  go_wp2
  go_ret
  exact ⟨rfl,rfl⟩
 ·by_cases h1:x=49
  ·obtain rfl:r=true:=by rw [← hr];simp [e1.1 h1]
   clear e0 e1 e2 e3 hr hx hb;subst h1
   go_enter Tryd.func39,Tryd.ntmps39
   go_wp2
   go_ret
   exact ⟨rfl,rfl⟩
  ·by_cases h2:x=50
   ·obtain rfl:r=true:=by rw [← hr];simp [e2.1 h2]
    clear e0 e1 e2 e3 hr hx hb;subst h2
    go_enter Tryd.func39,Tryd.ntmps39
    go_wp2
    go_ret
    exact ⟨rfl,rfl⟩
   ·by_cases h3:x=53
    ·obtain rfl:r=true:=by rw [← hr];simp [e3.1 h3]
     clear e0 e1 e2 e3 hr hx hb;subst h3
     go_enter Tryd.func39,Tryd.ntmps39
     go_wp2
     go_ret
     exact ⟨rfl,rfl⟩
    ·obtain rfl:r=false:=by
      rw [← hr];have a0:¬ k=48:=fun h => h0 (e0.2 h)
      have a1:¬ k=49:=fun h => h1 (e1.2 h)
      have a2:¬ k=50:=fun h => h2 (e2.2 h)
      have a3:¬ k=53:=fun h => h3 (e3.2 h)
      simp [a0,a1,a2,a3]
     clear e0 e1 e2 e3 hr hx hb
     go_enter Tryd.func39,Tryd.ntmps39
     go_wp2
     go_ret
     exact ⟨rfl,rfl⟩
theorem size_any (k:UInt8) (n:Int) (w:World) :
 Calls Tryd.prog 49 #[.int .u8 (k.toNat:Int),.int .i64 n] w fun e w' => e=.returned (.int .i64 (sizeD k n))∧w=w':=by
 have hb:=k.toNat_lt;have e0:(k.toNat:Int)=48 ↔ k=48:=u8_lit k 48 (by decide)
 obtain ⟨r,hr⟩:∃ r,sizeD k n=r:=⟨_,rfl⟩;rw [hr];unfold sizeD at hr;obtain ⟨x,hx⟩:∃ x:Int,x=(k.toNat:Int):=⟨_,rfl⟩;rw [← hx] at e0 ⊢
 by_cases h0:x=48
 ·have hk:k=48:=e0.1 h0
  rw [if_neg (by simp [hk])] at hr
  by_cases h1:1048576 < n
  ·rw [if_pos h1] at hr
   subst hr;clear e0 hx hb;subst h0
   go_enter Tryd.func49,Tryd.ntmps49
   go_wp2
   go_ret
   exact ⟨rfl,rfl⟩
  ·rw [if_neg h1] at hr
   subst hr;clear e0 hx hb;subst h0
   go_enter Tryd.func49,Tryd.ntmps49
   go_wp2
   go_ret
   exact ⟨rfl,rfl⟩
 ·have hk:¬ k=48:=fun h => h0 (e0.2 h)
  by_cases hn:n=0
  ·subst hn
   rw [if_neg (by simp),if_neg (by omega)] at hr
   subst hr;clear e0 hx hb
   go_enter Tryd.func49,Tryd.ntmps49
   go_wp2
   go_ret
   exact ⟨rfl,rfl⟩
  ·rw [if_pos ⟨hk,hn⟩] at hr
   subst hr;clear e0 hx hb;have b0:(x != 48)=true:=by simpa using h0
   have bn:(n != 0)=true:=by simpa using hn
   go_enter Tryd.func49,Tryd.ntmps49
   go_wp2
   go_ret
   exact ⟨rfl,rfl⟩
theorem inBounds_any (a b c d:Int) (w:World) :
 Calls Tryd.prog 47 #[.agg #[.int .i64 a,.int .i64 b,.int .i64 c,.int .i64 d]] w fun e w' => e=.returned (.bool (metaOk a b c d))∧Below w.heap.size w w':=by
 obtain ⟨r,hr⟩:∃ r,metaOk a b c d=r:=⟨_,rfl⟩;rw [hr];unfold metaOk at hr;have hb:=(Below.refl w.heap.size w).alloc (Nat.le_refl _) (.cells #[.int .i64 a,.int .i64 b,.int .i64 c,.int .i64 d] 43);have HB:=Lib.hid hb;clear hb
 by_cases h1:0≤a∧a≤4095
 ·by_cases h2:0≤b∧b≤2147483647
  ·by_cases h3:0≤c∧c≤2147483647
   ·by_cases h4:0≤d∧d≤1099511627776
    ·obtain rfl:r=true:=by rw [← hr];simp only [decide_eq_true_eq];omega
     clear hr
     go_enter Tryd.func47,Tryd.ntmps47
     go_wp2_with (go_at_call 58;refine (in_yes _ _ _ _ (by omega) (by omega)).mono ?_;rintro e w' ⟨rfl,rfl⟩)
     go_ret
     exact ⟨rfl,HB.out⟩
    ·obtain rfl:r=false:=by rw [← hr];simp only [decide_eq_false_iff_not];omega
     clear hr
     go_enter Tryd.func47,Tryd.ntmps47
     go_wp2_with (go_at_call 58;first | (refine (in_yes _ _ _ _ (by omega) (by omega)).mono ?_;rintro e w' ⟨rfl,rfl⟩) | (refine (in_no _ _ _ _ (by omega)).mono ?_;rintro e w' ⟨rfl,rfl⟩))
     go_ret
     exact ⟨rfl,HB.out⟩
   ·obtain rfl:r=false:=by rw [← hr];simp only [decide_eq_false_iff_not];omega
    clear hr
    go_enter Tryd.func47,Tryd.ntmps47
    go_wp2_with (go_at_call 58;first | (refine (in_yes _ _ _ _ (by omega) (by omega)).mono ?_;rintro e w' ⟨rfl,rfl⟩) | (refine (in_no _ _ _ _ (by omega)).mono ?_;rintro e w' ⟨rfl,rfl⟩))
    go_ret
    exact ⟨rfl,HB.out⟩
  ·obtain rfl:r=false:=by rw [← hr];simp only [decide_eq_false_iff_not];omega
   clear hr
   go_enter Tryd.func47,Tryd.ntmps47
   go_wp2_with (go_at_call 58;first | (refine (in_yes _ _ _ _ (by omega) (by omega)).mono ?_;rintro e w' ⟨rfl,rfl⟩) | (refine (in_no _ _ _ _ (by omega)).mono ?_;rintro e w' ⟨rfl,rfl⟩))
   go_ret
   exact ⟨rfl,HB.out⟩
 ·obtain rfl:r=false:=by rw [← hr];simp only [decide_eq_false_iff_not];omega
  clear hr
  go_enter Tryd.func47,Tryd.ntmps47
  go_wp2_with (go_at_call 58;first | (refine (in_yes _ _ _ _ (by omega) (by omega)).mono ?_;rintro e w' ⟨rfl,rfl⟩) | (refine (in_no _ _ _ _ (by omega)).mono ?_;rintro e w' ⟨rfl,rfl⟩))
  go_ret
  exact ⟨rfl,HB.out⟩
theorem goal_any (k:UInt8) (l:List UInt8) (w:World) (hm:l.length≤140737488351232) (hT:Tabs w) :
 Calls Tryd.prog 48 #[.int .u8 (k.toNat:Int),.string (str l)] w fun e w' => e=.returned (.tuple #[.string (str (goalD k l).1),.int .i64 (goalD k l).2])∧Below w.heap.size w w':=by
 have hC:=clean_any l w hm hT;have hG:=target_any l w hm hT;have e1:(k.toNat:Int)=49 ↔ k=49:=u8_lit k 49 (by decide)
 have e2:(k.toNat:Int)=50 ↔ k=50:=u8_lit k 50 (by decide)
 unfold goalD;obtain ⟨x,hx⟩:∃ x:Int,x=(k.toNat:Int):=⟨_,rfl⟩;rw [← hx] at e1 e2 ⊢
 by_cases h1:x=49
 ·rw [if_pos (e1.1 h1)]
  clear e1 e2 hx;subst h1
  go_enter Tryd.func48,Tryd.ntmps48
  go_wp2_with (go_at_call 46;refine hC.mono ?_;rintro e w1 ⟨rfl,hb⟩)
  go_ret2
  exact ⟨rfl,hb⟩
 ·rw [if_neg (fun h => h1 (e1.2 h))]
  by_cases h2:x=50
  ·rw [if_pos (e2.1 h2)]
   clear e1 e2 hx;subst h2
   go_enter Tryd.func48,Tryd.ntmps48
   go_wp2_with (go_at_call 59;refine hG.mono ?_;rintro e w1 ⟨rfl,hb⟩)
   go_ret2
   exact ⟨rfl,hb⟩
  ·rw [if_neg (fun h => h2 (e2.2 h))]
   clear e1 e2 hx
   go_enter Tryd.func48,Tryd.ntmps48
   go_wp2
   go_ret2
   exact ⟨rfl,Below.refl _ _⟩
end Go.Proofs.YtfhelebejclalaaDoor.Mem
end
section
namespace Go.Proofs.YtfhelebejclalaaDoor.Mem
open Go.ChangeShapes Go.WideShapes Go.ChangeAt Go.RowKit Base Byt Txt Bk Hp Head Num Path Go.Lib
set_option linter.unusedVariables false
set_option maxRecDepth 100000
theorem load_mem (w:World) (g:Nat) (a b:ByteArray) (k m u i t:Int) (p:Option Addr) (n c:Nat) (h:Blk w g 50 #[.string a,.string b,.int .u8 k,.int .i64 m,.int .i64 u,.int .i64 i,.int .i64 t,.slice p n c]) :
 (loadVar 50 ⟨g,0,none⟩).run Tryd.prog w=.ok (.agg #[.string a,.string b,.int .u8 k,.int .i64 m,.int .i64 u,.int .i64 i,.int .i64 t,.slice p n c]) w:=by
 have c0:=h.cell 0;have c1:=h.cell 1;have c2:=h.cell 2;have c3:=h.cell 3;have c4:=h.cell 4;have c5:=h.cell 5;have c6:=h.cell 6;have c7:=h.cell 7;clear h
 go_simp
theorem ret_memB {fn:Func} (hf:fn.results=#[.cell 2 50,.tmp 3]) (tmps:Array Value) (w:World) (g:Nat) (v:Value) (ht:tmps.getD 2 undef=.pointer (some ⟨g,0,none⟩)) (hv:tmps.getD 3 undef=v)
 (m:MemV) (p:Option Addr) (c:Nat) (hb:Blk w g 50 (memC m p c)):(results fn tmps).run Tryd.prog w=.ok (.tuple #[.agg (memC m p c),v]) w:=by
 rw [results_cell_tmp hf,ht,hv];have hl:=load_mem w g _ _ _ _ _ _ _ _ _ _ hb;simp only [asAddr,Sem.run_pure,hl,Result.andThen];rfl
theorem blk8 {w:World} {g:Nat} {m:MemV} {p:Option Addr} {c:Nat} (hb:Blk w g 50 (memC m p c)) (a0 a1 a2 a3 a4 a5 a6 a7:Value) :
 Blk ((((((((w.setCell ⟨g,0,none⟩ a0).setCell ⟨g,1,none⟩ a1).setCell ⟨g,2,none⟩ a2).setCell ⟨g,3,none⟩ a3).setCell ⟨g,4,none⟩ a4).setCell ⟨g,5,none⟩ a5).setCell ⟨g,6,none⟩ a6).setCell ⟨g,7,none⟩ a7) g 50 #[a0,a1,a2,a3,a4,a5,a6,a7]:=
 (((((((hb.set 0 a0 (by show 0 < 8;decide)).set 1 a1 (by show 1 < 8;decide)).set 2 a2 (by show 2 < 8;decide)).set 3 a3 (by show 3 < 8;decide)).set 4 a4 (by show 4 < 8;decide)).set 5 a5 (by show 5 < 8;decide)).set 6 a6 (by show 6 < 8;decide)).set 7 a7 (by show 7 < 8;decide)
theorem below8 {w w':World} {g:Nat} (hk:Below w.heap.size w w') (hg:w.heap.size≤g) (a0 a1 a2 a3 a4 a5 a6 a7:Value) :
 Below w.heap.size w ((((((((w'.setCell ⟨g,0,none⟩ a0).setCell ⟨g,1,none⟩ a1).setCell ⟨g,2,none⟩ a2).setCell ⟨g,3,none⟩ a3).setCell ⟨g,4,none⟩ a4).setCell ⟨g,5,none⟩ a5).setCell ⟨g,6,none⟩ a6).setCell ⟨g,7,none⟩ a7):=
 ((((((((hk.setCell (p:=⟨g,0,none⟩) hg a0).setCell (p:=⟨g,1,none⟩) hg a1).setCell (p:=⟨g,2,none⟩) hg a2).setCell (p:=⟨g,3,none⟩) hg a3).setCell (p:=⟨g,4,none⟩) hg a4).setCell (p:=⟨g,5,none⟩) hg a5).setCell (p:=⟨g,6,none⟩) hg a6).setCell (p:=⟨g,7,none⟩) hg a7)
def FMid (w wi:World) (h:HeadV):Prop:=Below w.heap.size w wi∧Blk wi w.heap.size 76 (headC h)∧Blk wi (w.heap.size+1) 50 (memC noM none 0)
theorem FMid.below {w wi wj:World} {h:HeadV} (hm:FMid w wi h) (hb:Below wi.heap.size wi wj):FMid w wj h:=
 ⟨hm.1.trans (hb.mono hm.1.size),hm.2.1.below hb hm.2.1.lt,hm.2.2.below hb hm.2.2.lt⟩
set_option maxHeartbeats 4000000 in
theorem fromHead_any (h:HeadV) (w:World) (h1:h.name.length≤140737488351232) (h2:h.link.length≤140737488351232) (hT:Tabs w) :
 Calls Tryd.prog 40 #[.agg (headC h)] w fun e w' => e=.returned (.tuple #[.agg (memC (fromD h).1 none 0),.int .i64 (fromD h).2])∧Below w.heap.size w w':=by
 obtain ⟨⟨cp,ce⟩,hc⟩:∃ x,cleanD 9 6 h.name=x:=⟨_,rfl⟩;obtain ⟨⟨gp,ge⟩,hg⟩:∃ x,goalD h.kind h.link=x:=⟨_,rfl⟩;obtain ⟨mo,hmo⟩:∃ x,metaOk h.mode h.uid h.gid h.time=x:=⟨_,rfl⟩;obtain ⟨sz,hsz⟩:∃ x,sizeD h.kind h.size=x:=⟨_,rfl⟩
 have CC:Hid (∀ wi,Below w.heap.size w wi → Calls Tryd.prog 46 #[.string (str h.name)] wi fun e w' => e=.returned (.tuple #[.string (str cp),.int .i64 ce])∧Below wi.heap.size wi w'):=
  Lib.hid (fun wi hb => by have:=clean_any h.name wi h1 (hT.below hb);rwa [hc] at this)
 have CM:Hid (∀ wi,Calls Tryd.prog 47 #[.agg #[.int .i64 h.mode,.int .i64 h.uid,.int .i64 h.gid,.int .i64 h.time]] wi fun e w' => e=.returned (.bool mo)∧Below wi.heap.size wi w'):=
  Lib.hid (fun wi => by have:=inBounds_any h.mode h.uid h.gid h.time wi;rwa [hmo] at this)
 have CG:Hid (∀ wi,Below w.heap.size w wi → Calls Tryd.prog 48 #[.int .u8 (h.kind.toNat:Int),.string (str h.link)] wi fun e w' => e=.returned (.tuple #[.string (str gp),.int .i64 ge])∧Below wi.heap.size wi w'):=
  Lib.hid (fun wi hb => by have:=goal_any h.kind h.link wi h2 (hT.below hb);rwa [hg] at this)
 have CS:Hid (∀ wi,Calls Tryd.prog 49 #[.int .u8 (h.kind.toNat:Int),.int .i64 h.size] wi fun e w' => e=.returned (.int .i64 sz)∧wi=w'):=
  Lib.hid (fun wi => by have:=size_any h.kind h.size wi;rwa [hsz] at this)
 obtain ⟨U,hU⟩:∃ U,fromD h=U:=⟨_,rfl⟩;rw [hU]
 have HE:Hid (U=if ce≠0 then (noM,ce) else if mo=false then (noM,4) else if ge≠0 then (noM,ge) else if sz≠0 then (noM,sz) else (⟨cp,gp,h.kind,h.mode,h.uid,h.gid,h.time,[]⟩,0)):=
  Lib.hid (by rw [← hU];unfold fromD;rw [hc,hg,hmo,hsz])
 clear h1 h2 hT hU hc hg hmo hsz
 have HM0:Hid (FMid w ((w.alloc (.cells (headC h) 76)).alloc (.cells (memC noM none 0) 50)) h):=by
  have b1:=Blk.new (w.alloc (.cells (headC h) 76)) 50 (memC noM none 0);rw [World.size_alloc] at b1;exact Lib.hid ⟨((Below.refl _ w).alloc (Nat.le_refl _) _).alloc (by simp) _,(Blk.new w 76 (headC h)).alloc _,b1⟩
 obtain ⟨kn,hkn⟩:∃ kn:Int,(h.kind.toNat:Int)=kn:=⟨_,rfl⟩;have HKN:=Lib.hid hkn;simp only [headC,hkn] at HM0 ⊢;rw [hkn] at CG CS;clear hkn
 by_cases a1:ce=0
 ·subst a1
  cases mo with
  | false =>
    have E:Hid (U=(noM,4)):=Lib.hid (by rw [HE.out];simp)
    go_enter Tryd.func40,Tryd.ntmps40
    go_wp2_with fail
    refine (CC.out _ HM0.out.1).mono ?_
    rintro e w1 ⟨rfl,hb⟩;have HM1:=Lib.hid (HM0.out.below hb);clear hb HM0;have b1:=HM1.out.2.1;have x3:=b1.cell 3;have x4:=b1.cell 4;have x5:=b1.cell 5;have x6:=b1.cell 6;simp only [headC,List.getElem?_toArray,List.getElem?_cons_zero,List.getElem?_cons_succ] at x3 x4 x5 x6;clear b1
    go_wp2_with fail
    refine (CM.out _).mono ?_
    rintro e w2 ⟨rfl,hb⟩;have HM2:=Lib.hid (HM1.out.below hb);clear hb HM1 x3 x4 x5 x6;have b2:=HM2.out.2.2;have r0:=b2.cell 0;have f0:=b2.frozen 0;have r1:=b2.cell 1;have f1:=b2.frozen 1;have r2:=b2.cell 2;have f2:=b2.frozen 2;have r3:=b2.cell 3;have f3:=b2.frozen 3;have r4:=b2.cell 4;have f4:=b2.frozen 4;have r5:=b2.cell 5;have f5:=b2.frozen 5;have r6:=b2.cell 6;have f6:=b2.frozen 6;have r7:=b2.cell 7;have f7:=b2.frozen 7;simp only [memC,noM,List.getElem?_toArray,List.getElem?_cons_zero,List.getElem?_cons_succ] at r0 r1 r2 r3 r4 r5 r6 r7;clear b2
    go_wp2
    refine bodyPost_ret (ret_memB rfl _ _ (w.heap.size+1) _ rfl rfl noM none 0 (blk8 HM2.out.2.2 _ _ _ _ _ _ _ _)) rfl ?_
    exact ⟨by rw [E.out];rfl,below8 HM2.out.1 (by omega) _ _ _ _ _ _ _ _⟩
  | true =>
    by_cases a2:ge=0
    ·subst a2
     by_cases a3:sz=0
     ·subst a3
      have E:Hid (U=(⟨cp,gp,h.kind,h.mode,h.uid,h.gid,h.time,[]⟩,0)):=Lib.hid (by rw [HE.out];simp)
      go_enter Tryd.func40,Tryd.ntmps40
      go_wp2_with fail
      refine (CC.out _ HM0.out.1).mono ?_
      rintro e w1 ⟨rfl,hb⟩;have HM1:=Lib.hid (HM0.out.below hb);clear hb HM0;have b1:=HM1.out.2.1;have x3:=b1.cell 3;have x4:=b1.cell 4;have x5:=b1.cell 5;have x6:=b1.cell 6;simp only [headC,List.getElem?_toArray,List.getElem?_cons_zero,List.getElem?_cons_succ] at x3 x4 x5 x6;clear b1
      go_wp2_with fail
      refine (CM.out _).mono ?_
      rintro e w2 ⟨rfl,hb⟩;have HM2:=Lib.hid (HM1.out.below hb);clear hb HM1 x3 x4 x5 x6;have b1:=HM2.out.2.1;have x1:=b1.cell 1;have x2:=b1.cell 2;simp only [headC,List.getElem?_toArray,List.getElem?_cons_zero,List.getElem?_cons_succ,HKN.out] at x1 x2;clear b1
      go_wp2_with fail
      refine (CG.out _ HM2.out.1).mono ?_
      rintro e w3 ⟨rfl,hb⟩;have HM3:=Lib.hid (HM2.out.below hb);clear hb HM2 x1 x2;have b1:=HM3.out.2.1;have x2:=b1.cell 2;have x7:=b1.cell 7;simp only [headC,List.getElem?_toArray,List.getElem?_cons_zero,List.getElem?_cons_succ,HKN.out] at x2 x7;clear b1
      go_wp2_with fail
      refine (CS.out _).mono ?_
      rintro e w4 ⟨rfl,rfl⟩;clear x2 x7;have b1:=HM3.out.2.1;have x2:=b1.cell 2;have x3:=b1.cell 3;have x4:=b1.cell 4;have x5:=b1.cell 5;have x6:=b1.cell 6;simp only [headC,List.getElem?_toArray,List.getElem?_cons_zero,List.getElem?_cons_succ,HKN.out] at x2 x3 x4 x5 x6;clear b1;have hkk:=HKN.out;subst hkk;have b2:=HM3.out.2.2;have r0:=b2.cell 0;have f0:=b2.frozen 0;have r1:=b2.cell 1;have f1:=b2.frozen 1;have r2:=b2.cell 2;have f2:=b2.frozen 2;have r3:=b2.cell 3;have f3:=b2.frozen 3;have r4:=b2.cell 4;have f4:=b2.frozen 4;have r5:=b2.cell 5;have f5:=b2.frozen 5
      have r6:=b2.cell 6;have f6:=b2.frozen 6;have r7:=b2.cell 7;have f7:=b2.frozen 7;simp only [memC,noM,List.getElem?_toArray,List.getElem?_cons_zero,List.getElem?_cons_succ] at r0 r1 r2 r3 r4 r5 r6 r7;clear b2
      go_wp2
      refine bodyPost_ret (ret_memB rfl _ _ (w.heap.size+1) _ rfl rfl ⟨cp,gp,h.kind,h.mode,h.uid,h.gid,h.time,[]⟩ none 0 (blk8 HM3.out.2.2 _ _ _ _ _ _ _ _)) rfl ?_
      exact ⟨by rw [E.out];rfl,below8 HM3.out.1 (by omega) _ _ _ _ _ _ _ _⟩
     ·have E:Hid (U=(noM,sz)):=Lib.hid (by rw [HE.out];simp [a3])
      go_enter Tryd.func40,Tryd.ntmps40
      go_wp2_with fail
      refine (CC.out _ HM0.out.1).mono ?_
      rintro e w1 ⟨rfl,hb⟩;have HM1:=Lib.hid (HM0.out.below hb);clear hb HM0;have b1:=HM1.out.2.1;have x3:=b1.cell 3;have x4:=b1.cell 4;have x5:=b1.cell 5;have x6:=b1.cell 6;simp only [headC,List.getElem?_toArray,List.getElem?_cons_zero,List.getElem?_cons_succ] at x3 x4 x5 x6;clear b1
      go_wp2_with fail
      refine (CM.out _).mono ?_
      rintro e w2 ⟨rfl,hb⟩;have HM2:=Lib.hid (HM1.out.below hb);clear hb HM1 x3 x4 x5 x6;have b1:=HM2.out.2.1;have x1:=b1.cell 1;have x2:=b1.cell 2;simp only [headC,List.getElem?_toArray,List.getElem?_cons_zero,List.getElem?_cons_succ,HKN.out] at x1 x2;clear b1
      go_wp2_with fail
      refine (CG.out _ HM2.out.1).mono ?_
      rintro e w3 ⟨rfl,hb⟩;have HM3:=Lib.hid (HM2.out.below hb);clear hb HM2 x1 x2;have b1:=HM3.out.2.1;have x2:=b1.cell 2;have x7:=b1.cell 7;simp only [headC,List.getElem?_toArray,List.getElem?_cons_zero,List.getElem?_cons_succ,HKN.out] at x2 x7;clear b1
      go_wp2_with fail
      refine (CS.out _).mono ?_
      rintro e w4 ⟨rfl,rfl⟩;clear x2 x7;have b2:=HM3.out.2.2;have r0:=b2.cell 0;have f0:=b2.frozen 0;have r1:=b2.cell 1;have f1:=b2.frozen 1;have r2:=b2.cell 2;have f2:=b2.frozen 2;have r3:=b2.cell 3;have f3:=b2.frozen 3;have r4:=b2.cell 4;have f4:=b2.frozen 4;have r5:=b2.cell 5;have f5:=b2.frozen 5;have r6:=b2.cell 6;have f6:=b2.frozen 6;have r7:=b2.cell 7;have f7:=b2.frozen 7;simp only [memC,noM,List.getElem?_toArray,List.getElem?_cons_zero,List.getElem?_cons_succ] at r0 r1 r2 r3 r4 r5 r6 r7;clear b2
      go_wp2
      refine bodyPost_ret (ret_memB rfl _ _ (w.heap.size+1) _ rfl rfl noM none 0 (blk8 HM3.out.2.2 _ _ _ _ _ _ _ _)) rfl ?_
      exact ⟨by rw [E.out];rfl,below8 HM3.out.1 (by omega) _ _ _ _ _ _ _ _⟩
    ·have E:Hid (U=(noM,ge)):=Lib.hid (by rw [HE.out];simp [a2])
     go_enter Tryd.func40,Tryd.ntmps40
     go_wp2_with fail
     refine (CC.out _ HM0.out.1).mono ?_
     rintro e w1 ⟨rfl,hb⟩;have HM1:=Lib.hid (HM0.out.below hb);clear hb HM0;have b1:=HM1.out.2.1;have x3:=b1.cell 3;have x4:=b1.cell 4;have x5:=b1.cell 5;have x6:=b1.cell 6;simp only [headC,List.getElem?_toArray,List.getElem?_cons_zero,List.getElem?_cons_succ] at x3 x4 x5 x6;clear b1
     go_wp2_with fail
     refine (CM.out _).mono ?_
     rintro e w2 ⟨rfl,hb⟩;have HM2:=Lib.hid (HM1.out.below hb);clear hb HM1 x3 x4 x5 x6;have b1:=HM2.out.2.1;have x1:=b1.cell 1;have x2:=b1.cell 2;simp only [headC,List.getElem?_toArray,List.getElem?_cons_zero,List.getElem?_cons_succ,HKN.out] at x1 x2;clear b1
     go_wp2_with fail
     refine (CG.out _ HM2.out.1).mono ?_
     rintro e w3 ⟨rfl,hb⟩;have HM3:=Lib.hid (HM2.out.below hb);clear hb HM2 x1 x2;have b2:=HM3.out.2.2;have r0:=b2.cell 0;have f0:=b2.frozen 0;have r1:=b2.cell 1;have f1:=b2.frozen 1;have r2:=b2.cell 2;have f2:=b2.frozen 2;have r3:=b2.cell 3;have f3:=b2.frozen 3;have r4:=b2.cell 4;have f4:=b2.frozen 4;have r5:=b2.cell 5;have f5:=b2.frozen 5;have r6:=b2.cell 6;have f6:=b2.frozen 6;have r7:=b2.cell 7;have f7:=b2.frozen 7;simp only [memC,noM,List.getElem?_toArray,List.getElem?_cons_zero,List.getElem?_cons_succ] at r0 r1 r2 r3 r4 r5 r6 r7;clear b2
     go_wp2
     refine bodyPost_ret (ret_memB rfl _ _ (w.heap.size+1) _ rfl rfl noM none 0 (blk8 HM3.out.2.2 _ _ _ _ _ _ _ _)) rfl ?_
     exact ⟨by rw [E.out];rfl,below8 HM3.out.1 (by omega) _ _ _ _ _ _ _ _⟩
 ·have E:Hid (U=(noM,ce)):=Lib.hid (by rw [HE.out];simp [a1])
  go_enter Tryd.func40,Tryd.ntmps40
  go_wp2_with fail
  refine (CC.out _ HM0.out.1).mono ?_
  rintro e w1 ⟨rfl,hb⟩;have HM1:=Lib.hid (HM0.out.below hb);clear hb HM0;have b2:=HM1.out.2.2;have r0:=b2.cell 0;have f0:=b2.frozen 0;have r1:=b2.cell 1;have f1:=b2.frozen 1;have r2:=b2.cell 2;have f2:=b2.frozen 2;have r3:=b2.cell 3;have f3:=b2.frozen 3;have r4:=b2.cell 4;have f4:=b2.frozen 4;have r5:=b2.cell 5;have f5:=b2.frozen 5;have r6:=b2.cell 6;have f6:=b2.frozen 6;have r7:=b2.cell 7;have f7:=b2.frozen 7;simp only [memC,noM,List.getElem?_toArray,List.getElem?_cons_zero,List.getElem?_cons_succ] at r0 r1 r2 r3 r4 r5 r6 r7;clear b2
  go_wp2
  refine bodyPost_ret (ret_memB rfl _ _ (w.heap.size+1) _ rfl rfl noM none 0 (blk8 HM1.out.2.2 _ _ _ _ _ _ _ _)) rfl ?_
  exact ⟨by rw [E.out];rfl,below8 HM1.out.1 (by omega) _ _ _ _ _ _ _ _⟩
theorem fromD_body (h:HeadV):(fromD h).1.body=[]:=by
 unfold fromD
 split
 ·rfl
 ·split
  ·rfl
  ·split
   ·rfl
   ·split<;>rfl
end Go.Proofs.YtfhelebejclalaaDoor.Mem
end
section
namespace Go.Proofs.YtfhelebejclalaaDoor.Mem
open Go.ChangeShapes Go.WideShapes Go.ChangeAt Go.RowKit Base Byt Txt Bk Hp Head Num Path Go.Lib
set_option linter.unusedVariables false
set_option maxRecDepth 100000
theorem rmeta_any (a b c d:Int) (w:World) :
 Calls Tryd.prog 37 #[.agg #[.int .i64 a,.int .i64 b,.int .i64 c,.int .i64 d]] w fun e w' => e=.returned (.bool (metaOk a b c d))∧Below w.heap.size w w':=by
 obtain ⟨r,hr⟩:∃ r,metaOk a b c d=r:=⟨_,rfl⟩;rw [hr];unfold metaOk at hr;have HB:=Lib.hid ((Below.refl w.heap.size w).alloc (Nat.le_refl _) (.cells #[.int .i64 a,.int .i64 b,.int .i64 c,.int .i64 d] 43))
 by_cases h0:0≤a
 ·by_cases h1:a≤4095
  ·by_cases h2:0≤b
   ·by_cases h3:b < 2147483648
    ·by_cases h4:0≤c
     ·by_cases h5:c < 2147483648
      ·by_cases h6:0≤d
       ·by_cases h7:d≤1099511627776
        ·obtain rfl:r=true:=by rw [← hr];simp only [decide_eq_true_eq];omega
         clear hr
         go_enter Tryd.func37,Tryd.ntmps37
         go_wp2
         go_ret
         exact ⟨rfl,HB.out⟩
        ·obtain rfl:r=false:=by rw [← hr];simp only [decide_eq_false_iff_not];omega
         have hd:decide (d≤1099511627776)=false:=by simpa using h7
         clear hr
         go_enter Tryd.func37,Tryd.ntmps37
         go_wp2
         go_ret
         exact ⟨rfl,HB.out⟩
       ·obtain rfl:r=false:=by rw [← hr];simp only [decide_eq_false_iff_not];omega
        have hd:decide (0≤d)=false:=by simpa using h6
        clear hr
        go_enter Tryd.func37,Tryd.ntmps37
        go_wp2
        go_ret
        exact ⟨rfl,HB.out⟩
      ·obtain rfl:r=false:=by rw [← hr];simp only [decide_eq_false_iff_not];omega
       have hd:decide (c < 2147483648)=false:=by simpa using h5
       clear hr
       go_enter Tryd.func37,Tryd.ntmps37
       go_wp2
       go_ret
       exact ⟨rfl,HB.out⟩
     ·obtain rfl:r=false:=by rw [← hr];simp only [decide_eq_false_iff_not];omega
      have hd:decide (0≤c)=false:=by simpa using h4
      clear hr
      go_enter Tryd.func37,Tryd.ntmps37
      go_wp2
      go_ret
      exact ⟨rfl,HB.out⟩
    ·obtain rfl:r=false:=by rw [← hr];simp only [decide_eq_false_iff_not];omega
     have hd:decide (b < 2147483648)=false:=by simpa using h3
     clear hr
     go_enter Tryd.func37,Tryd.ntmps37
     go_wp2
     go_ret
     exact ⟨rfl,HB.out⟩
   ·obtain rfl:r=false:=by rw [← hr];simp only [decide_eq_false_iff_not];omega
    have hd:decide (0≤b)=false:=by simpa using h2
    clear hr
    go_enter Tryd.func37,Tryd.ntmps37
    go_wp2
    go_ret
    exact ⟨rfl,HB.out⟩
  ·obtain rfl:r=false:=by rw [← hr];simp only [decide_eq_false_iff_not];omega
   have hd:decide (a≤4095)=false:=by simpa using h1
   clear hr
   go_enter Tryd.func37,Tryd.ntmps37
   go_wp2
   go_ret
   exact ⟨rfl,HB.out⟩
 ·obtain rfl:r=false:=by rw [← hr];simp only [decide_eq_false_iff_not];omega
  have hd:decide (0≤a)=false:=by simpa using h0
  clear hr
  go_enter Tryd.func37,Tryd.ntmps37
  go_wp2
  go_ret
  exact ⟨rfl,HB.out⟩
theorem rtarget_any (l:List UInt8) (w:World) (hm:l.length≤140737488351232) :
 Calls Tryd.prog 38 #[.string (str l)] w fun e w' => e=.returned (.int .i64 (targetD 9 6 l))∧w=w':=by
 have hT:=rtext_any (str l) w (by rw [str_size];omega)
 rw [str_data] at hT;have hs:(str l).size=l.length:=str_size l;obtain ⟨r,hr⟩:∃ r,targetD 9 6 l=r:=⟨_,rfl⟩;rw [hr];unfold targetD at hr
 cases hx:textD l with
 | false =>
   rw [hx] at hr hT;simp only [if_true] at hr;subst hr
   go_enter Tryd.func38,Tryd.ntmps38
   go_wp2_with fail
   refine hT.mono ?_
   rintro e w1 ⟨rfl,rfl⟩
   go_wp2
   go_ret
   exact ⟨rfl,rfl⟩
 | true =>
   rw [hx] at hr hT
   by_cases h0:l=[]
   ·subst h0
    simp at hr;subst hr
    go_enter Tryd.func38,Tryd.ntmps38
    go_wp2_with fail
    refine hT.mono ?_
    rintro e w1 ⟨rfl,rfl⟩;have e0:(str []).toList.isEmpty=true:=by rw [str_empty];rfl
    go_wp2
    go_ret
    exact ⟨rfl,rfl⟩
   ·have e0:(str l).toList.isEmpty=false:=by rw [str_empty];simpa using h0
    by_cases h1:200 < l.length
    ·have h2:(200:Int) < (l.length:Int):=by omega
     simp [h0,h1] at hr;subst hr
     go_enter Tryd.func38,Tryd.ntmps38
     go_wp2_with fail
     refine hT.mono ?_
     rintro e w1 ⟨rfl,rfl⟩
     go_wp2
     go_ret
     exact ⟨rfl,rfl⟩
    ·have h2:¬ (200:Int) < (l.length:Int):=by omega
     simp [h0,h1] at hr;subst hr
     go_enter Tryd.func38,Tryd.ntmps38
     go_wp2_with fail
     refine hT.mono ?_
     rintro e w1 ⟨rfl,rfl⟩
     go_wp2
     go_ret
     exact ⟨rfl,rfl⟩
theorem rcl_any (l:List UInt8) (w:World) (hm:l.length≤140737488351232) :
 Calls Tryd.prog 36 #[.string (str l)] w fun e w' => e=.returned (.bool (cleanOk l))∧w=w':=by
 have hC:=rclean_any (str l) w (by rw [str_size];omega)
 rw [str_data] at hC;obtain ⟨r,hr⟩:∃ r,cleanOk l=r:=⟨_,rfl⟩;rw [hr];unfold cleanOk at hr;obtain ⟨⟨cp,ce⟩,hc⟩:∃ x,cleanD 9 6 l=x:=⟨_,rfl⟩;rw [hc] at hC hr;clear hc;simp only [Prod.mk.injEq] at hr
 by_cases h0:ce=0
 ·by_cases h1:l=cp
  ·have e1:((str l).toList == (str cp).toList)=true:=by rw [str_toList,str_toList];simpa using h1
   have hr':r=true:=by rw [← hr];simp [h0,h1]
   subst h0 hr';clear hr h1
   go_enter Tryd.func36,Tryd.ntmps36
   go_wp2_with fail
   refine hC.mono ?_
   rintro e w1 ⟨rfl,rfl⟩
   go_wp2
   go_ret
   exact ⟨rfl,rfl⟩
  ·have e1:((str l).toList == (str cp).toList)=false:=by rw [str_toList,str_toList];simpa using h1
   have hr':r=false:=by rw [← hr];simp;exact fun h => absurd h.symm h1
   subst h0 hr';clear hr h1
   go_enter Tryd.func36,Tryd.ntmps36
   go_wp2_with fail
   refine hC.mono ?_
   rintro e w1 ⟨rfl,rfl⟩
   go_wp2
   go_ret
   exact ⟨rfl,rfl⟩
 ·have e1:(ce == 0)=false:=by simpa using h0
  have hr':r=false:=by rw [← hr];simp [h0]
  subst hr';clear hr
  go_enter Tryd.func36,Tryd.ntmps36
  go_wp2_with fail
  refine hC.mono ?_
  rintro e w1 ⟨rfl,rfl⟩
  go_wp2
  go_ret
  exact ⟨rfl,rfl⟩
end Go.Proofs.YtfhelebejclalaaDoor.Mem
end
section
namespace Go.Proofs.YtfhelebejclalaaDoor.Mem
open Go.ChangeShapes Go.WideShapes Go.ChangeAt Go.RowKit Base Byt Txt Bk Hp Head Num Path Go.Lib
set_option linter.unusedVariables false
set_option maxRecDepth 100000
set_option maxHeartbeats 4000000 in
theorem rgood_any (m:MemV) (p:Option Addr) (c:Nat) (w:World) (h1:m.path.length≤140737488351232) (h2:m.target.length≤140737488351232) :
 Calls Tryd.prog 28 #[.agg (memC m p c)] w fun e w' => e=.returned (.bool (goodD m))∧Below w.heap.size w w':=by
 have hu:=fun k hk => u8_lit m.kind k hk
 obtain ⟨kn,hkn⟩:∃ kn:Int,(m.kind.toNat:Int)=kn:=⟨_,rfl⟩;unfold memC;rw [hkn] at hu ⊢;have C1:=fun w => rcl_any m.path w h1
 have C2:=fun w => rcl_any m.target w h2
 have C3:=fun w => rtarget_any m.target w h2
 have C4:=fun w => rmeta_any m.mode m.uid m.gid m.time w
 obtain ⟨r,hr⟩:∃ r,goodD m=r:=⟨_,rfl⟩;rw [hr];unfold goodD at hr;obtain ⟨b1,hb1⟩:∃ b,cleanOk m.path=b:=⟨_,rfl⟩;obtain ⟨b2,hb2⟩:∃ b,cleanOk m.target=b:=⟨_,rfl⟩;obtain ⟨b3,hb3⟩:∃ b,targetD 9 6 m.target=b:=⟨_,rfl⟩;obtain ⟨b4,hb4⟩:∃ b,metaOk m.mode m.uid m.gid m.time=b:=⟨_,rfl⟩;simp only [hb1,hb2,hb3,hb4] at hr C1 C2 C3 C4;clear hb1 hb2 hb3 hb4 h1 h2;have hkk:m.kind=48 ↔ kn=48:=(hu 48 (by decide)).symm
 have hk1:m.kind=49 ↔ kn=49:=(hu 49 (by decide)).symm
 have hk2:m.kind=50 ↔ kn=50:=(hu 50 (by decide)).symm
 have hk3:m.kind=53 ↔ kn=53:=(hu 53 (by decide)).symm
 obtain ⟨bl,hbl⟩:∃ bl,m.body.length=bl:=⟨_,rfl⟩;have hte:(str m.target).toList.isEmpty=decide (m.target=[]):=str_empty m.target
 have hr2:(b1 && b4 && decide (bl≤1048576) && (decide (kn=48) || decide (bl=0)) && (if kn=48 ∨ kn=53 then decide (m.target=[]) else if kn=49 then b2 else if kn=50 then (b3 == 0) else false))=r:=by
  rw [← hr];have e1:(m.kind == 48)=decide (kn=48):=by rw [Bool.eq_iff_iff];simp [hkk]
  have e2:(m.body == [])=decide (bl=0):=by rw [Bool.eq_iff_iff,← hbl];simp
  have e3:(m.target == [])=decide (m.target=[]):=by rw [Bool.eq_iff_iff];simp
  have e4:(b3 == 0)=decide (b3=0):=by rw [Bool.eq_iff_iff];simp
  rw [e1,e2,e3,e4,hbl];simp only [hkk,hk1,hk2,hk3]
 rw [hbl];clear hr hkk hk1 hk2 hk3 hbl hu;have HB0:=Lib.hid ((Below.refl w.heap.size w).alloc (Nat.le_refl _) (.cells #[.string (str m.path),.string (str m.target),.int .u8 kn,.int .i64 m.mode,.int .i64 m.uid,.int .i64 m.gid,.int .i64 m.time,.slice p bl c] 50));have HX0:=Lib.hid (Blk.new w 50 #[.string (str m.path),.string (str m.target),.int .u8 kn,.int .i64 m.mode,.int .i64 m.uid,.int .i64 m.gid,.int .i64 m.time,.slice p bl c]);have HR:=Lib.hid hr2;clear hr2 hkn
 cases b1 with
 | false =>
   have hrv:r=false:=by rw [← HR.out];simp
   subst hrv
   go_enter Tryd.func28,Tryd.ntmps28
   go_wp2_with fail
   refine (C1 _).mono ?_
   rintro e w1 ⟨rfl,rfl⟩
   go_wp2
   go_ret
   exact ⟨rfl,HB0.out⟩
 | true =>
   cases b4 with
   | false =>
     have hrv:r=false:=by rw [← HR.out];simp
     subst hrv
     go_enter Tryd.func28,Tryd.ntmps28
     go_wp2_with fail
     refine (C1 _).mono ?_
     rintro e w1 ⟨rfl,rfl⟩;have b9:=HX0.out;have y3:=b9.cell 3;have y4:=b9.cell 4;have y5:=b9.cell 5;have y6:=b9.cell 6;simp only [List.getElem?_toArray,List.getElem?_cons_zero,List.getElem?_cons_succ] at y3 y4 y5 y6;clear b9
     go_wp2_with fail
     refine (C4 _).mono ?_
     rintro e w2 ⟨rfl,hb⟩;have HB2:=Lib.hid (HB0.out.trans (hb.mono HB0.out.size));have HX2:=Lib.hid (HX0.out.below hb HX0.out.lt);clear hb y3 y4 y5 y6;have b9:=HX2.out;have y1:=b9.cell 1;have y2:=b9.cell 2;have y7:=b9.cell 7;simp only [List.getElem?_toArray,List.getElem?_cons_zero,List.getElem?_cons_succ] at y1 y2 y7;clear b9
     go_wp2
     go_ret
     exact ⟨rfl,HB2.out⟩
   | true =>
     by_cases l1:1048576 < bl
     ·have l2:(1048576:Int) < (bl:Int):=by omega
      have hrv:r=false:=by rw [← HR.out];simp;omega
      subst hrv
      go_enter Tryd.func28,Tryd.ntmps28
      go_wp2_with fail
      refine (C1 _).mono ?_
      rintro e w1 ⟨rfl,rfl⟩;have b9:=HX0.out;have y3:=b9.cell 3;have y4:=b9.cell 4;have y5:=b9.cell 5;have y6:=b9.cell 6;simp only [List.getElem?_toArray,List.getElem?_cons_zero,List.getElem?_cons_succ] at y3 y4 y5 y6;clear b9
      go_wp2_with fail
      refine (C4 _).mono ?_
      rintro e w2 ⟨rfl,hb⟩;have HB2:=Lib.hid (HB0.out.trans (hb.mono HB0.out.size));have HX2:=Lib.hid (HX0.out.below hb HX0.out.lt);clear hb y3 y4 y5 y6;have b9:=HX2.out;have y1:=b9.cell 1;have y2:=b9.cell 2;have y7:=b9.cell 7;simp only [List.getElem?_toArray,List.getElem?_cons_zero,List.getElem?_cons_succ] at y1 y2 y7;clear b9
      go_wp2
      go_ret
      exact ⟨rfl,HB2.out⟩
     ·have l2:¬ (1048576:Int) < (bl:Int):=by omega
      have l3:bl≤1048576:=by omega
      by_cases k0:kn=48
      ·subst k0
       have hrv:r=decide (m.target=[]):=by rw [← HR.out];simp [l3]
       subst hrv
       go_enter Tryd.func28,Tryd.ntmps28
       go_wp2_with fail
       refine (C1 _).mono ?_
       rintro e w1 ⟨rfl,rfl⟩;have b9:=HX0.out;have y3:=b9.cell 3;have y4:=b9.cell 4;have y5:=b9.cell 5;have y6:=b9.cell 6;simp only [List.getElem?_toArray,List.getElem?_cons_zero,List.getElem?_cons_succ] at y3 y4 y5 y6;clear b9
       go_wp2_with fail
       refine (C4 _).mono ?_
       rintro e w2 ⟨rfl,hb⟩;have HB2:=Lib.hid (HB0.out.trans (hb.mono HB0.out.size));have HX2:=Lib.hid (HX0.out.below hb HX0.out.lt);clear hb y3 y4 y5 y6;have b9:=HX2.out;have y1:=b9.cell 1;have y2:=b9.cell 2;have y7:=b9.cell 7;simp only [List.getElem?_toArray,List.getElem?_cons_zero,List.getElem?_cons_succ] at y1 y2 y7;clear b9
       go_wp2
       go_ret
       exact ⟨rfl,HB2.out⟩
      ·have e0:(kn != 48)=true:=by simpa using k0
       have f0:(kn == 48)=false:=by simpa using k0
       by_cases l4:bl=0
       ·subst l4
        by_cases k3:kn=53
        ·subst k3
         have hrv:r=decide (m.target=[]):=by rw [← HR.out];simp
         subst hrv
         go_enter Tryd.func28,Tryd.ntmps28
         go_wp2_with fail
         refine (C1 _).mono ?_
         rintro e w1 ⟨rfl,rfl⟩;have b9:=HX0.out;have y3:=b9.cell 3;have y4:=b9.cell 4;have y5:=b9.cell 5;have y6:=b9.cell 6;simp only [List.getElem?_toArray,List.getElem?_cons_zero,List.getElem?_cons_succ] at y3 y4 y5 y6;clear b9
         go_wp2_with fail
         refine (C4 _).mono ?_
         rintro e w2 ⟨rfl,hb⟩;have HB2:=Lib.hid (HB0.out.trans (hb.mono HB0.out.size));have HX2:=Lib.hid (HX0.out.below hb HX0.out.lt);clear hb y3 y4 y5 y6;have b9:=HX2.out;have y1:=b9.cell 1;have y2:=b9.cell 2;have y7:=b9.cell 7;simp only [List.getElem?_toArray,List.getElem?_cons_zero,List.getElem?_cons_succ] at y1 y2 y7;clear b9
         go_wp2
         go_ret
         exact ⟨rfl,HB2.out⟩
        ·have f3:(kn == 53)=false:=by simpa using k3
         by_cases k1:kn=49
         ·subst k1
          have hrv:r=b2:=by rw [← HR.out];simp
          subst hrv
          go_enter Tryd.func28,Tryd.ntmps28
          go_wp2_with fail
          refine (C1 _).mono ?_
          rintro e w1 ⟨rfl,rfl⟩;have b9:=HX0.out;have y3:=b9.cell 3;have y4:=b9.cell 4;have y5:=b9.cell 5;have y6:=b9.cell 6;simp only [List.getElem?_toArray,List.getElem?_cons_zero,List.getElem?_cons_succ] at y3 y4 y5 y6;clear b9
          go_wp2_with fail
          refine (C4 _).mono ?_
          rintro e w2 ⟨rfl,hb⟩;have HB2:=Lib.hid (HB0.out.trans (hb.mono HB0.out.size));have HX2:=Lib.hid (HX0.out.below hb HX0.out.lt);clear hb y3 y4 y5 y6;have b9:=HX2.out;have y1:=b9.cell 1;have y2:=b9.cell 2;have y7:=b9.cell 7;simp only [List.getElem?_toArray,List.getElem?_cons_zero,List.getElem?_cons_succ] at y1 y2 y7;clear b9
          go_wp2_with fail
          refine (C2 _).mono ?_
          rintro e w3 ⟨rfl,rfl⟩
          go_wp2
          go_ret
          exact ⟨rfl,HB2.out⟩
         ·have f1:(kn == 49)=false:=by simpa using k1
          by_cases k2:kn=50
          ·subst k2
           have hrv:r=(b3 == 0):=by rw [← HR.out];simp
           subst hrv
           go_enter Tryd.func28,Tryd.ntmps28
           go_wp2_with fail
           refine (C1 _).mono ?_
           rintro e w1 ⟨rfl,rfl⟩;have b9:=HX0.out;have y3:=b9.cell 3;have y4:=b9.cell 4;have y5:=b9.cell 5;have y6:=b9.cell 6;simp only [List.getElem?_toArray,List.getElem?_cons_zero,List.getElem?_cons_succ] at y3 y4 y5 y6;clear b9
           go_wp2_with fail
           refine (C4 _).mono ?_
           rintro e w2 ⟨rfl,hb⟩;have HB2:=Lib.hid (HB0.out.trans (hb.mono HB0.out.size));have HX2:=Lib.hid (HX0.out.below hb HX0.out.lt);clear hb y3 y4 y5 y6;have b9:=HX2.out;have y1:=b9.cell 1;have y2:=b9.cell 2;have y7:=b9.cell 7;simp only [List.getElem?_toArray,List.getElem?_cons_zero,List.getElem?_cons_succ] at y1 y2 y7;clear b9
           go_wp2_with fail
           refine (C3 _).mono ?_
           rintro e w3 ⟨rfl,rfl⟩
           go_wp2
           go_ret
           exact ⟨rfl,HB2.out⟩
          ·have f2:(kn == 50)=false:=by simpa using k2
           have hrv:r=false:=by rw [← HR.out];simp [k0,k1,k2,k3]
           subst hrv
           go_enter Tryd.func28,Tryd.ntmps28
           go_wp2_with fail
           refine (C1 _).mono ?_
           rintro e w1 ⟨rfl,rfl⟩;have b9:=HX0.out;have y3:=b9.cell 3;have y4:=b9.cell 4;have y5:=b9.cell 5;have y6:=b9.cell 6;simp only [List.getElem?_toArray,List.getElem?_cons_zero,List.getElem?_cons_succ] at y3 y4 y5 y6;clear b9
           go_wp2_with fail
           refine (C4 _).mono ?_
           rintro e w2 ⟨rfl,hb⟩;have HB2:=Lib.hid (HB0.out.trans (hb.mono HB0.out.size));have HX2:=Lib.hid (HX0.out.below hb HX0.out.lt);clear hb y3 y4 y5 y6;have b9:=HX2.out;have y1:=b9.cell 1;have y2:=b9.cell 2;have y7:=b9.cell 7;simp only [List.getElem?_toArray,List.getElem?_cons_zero,List.getElem?_cons_succ] at y1 y2 y7;clear b9
           go_wp2
           go_ret
           exact ⟨rfl,HB2.out⟩
       ·have l5:(0:Int) < (bl:Int):=by omega
        have hrv:r=false:=by rw [← HR.out];simp [k0,l4]
        subst hrv
        go_enter Tryd.func28,Tryd.ntmps28
        go_wp2_with fail
        refine (C1 _).mono ?_
        rintro e w1 ⟨rfl,rfl⟩;have b9:=HX0.out;have y3:=b9.cell 3;have y4:=b9.cell 4;have y5:=b9.cell 5;have y6:=b9.cell 6;simp only [List.getElem?_toArray,List.getElem?_cons_zero,List.getElem?_cons_succ] at y3 y4 y5 y6;clear b9
        go_wp2_with fail
        refine (C4 _).mono ?_
        rintro e w2 ⟨rfl,hb⟩;have HB2:=Lib.hid (HB0.out.trans (hb.mono HB0.out.size));have HX2:=Lib.hid (HX0.out.below hb HX0.out.lt);clear hb y3 y4 y5 y6;have b9:=HX2.out;have y1:=b9.cell 1;have y2:=b9.cell 2;have y7:=b9.cell 7;simp only [List.getElem?_toArray,List.getElem?_cons_zero,List.getElem?_cons_succ] at y1 y2 y7;clear b9
        go_wp2
        go_ret
        exact ⟨rfl,HB2.out⟩
end Go.Proofs.YtfhelebejclalaaDoor.Mem
end
section
namespace Go.Proofs.YtfhelebejclalaaDoor.Mem
open Go.ChangeShapes Go.WideShapes Go.ChangeAt Go.RowKit Base Byt Txt Bk Hp Head Num Path Go.Lib
set_option linter.unusedVariables false
set_option maxRecDepth 100000
set_option maxHeartbeats 4000000 in
theorem memGood_any (m:MemV) (p:Option Addr) (c:Nat) (w:World) (h1:m.path.length≤140737488351232) (h2:m.target.length≤140737488351232) (hT:Tabs w) :
 Calls Tryd.prog 29 #[.agg (memC m p c)] w fun e w' => e=.returned (.bool (goodD m))∧Below w.heap.size w w':=by
 rw [goodD_is];obtain ⟨⟨fm,fe⟩,hfd⟩:∃ x,fromD (headOfM m)=x:=⟨_,rfl⟩;have hfb:fm.body=[]:=by have:=fromD_body (headOfM m);rw [hfd] at this;exact this
 have CF:∀ wi,Below w.heap.size w wi → Calls Tryd.prog 40 #[.agg #[.string (str m.path),.string (str m.target),.int .u8 (m.kind.toNat:Int),.int .i64 m.mode,.int .i64 m.uid,.int .i64 m.gid,.int .i64 m.time,.int .i64 (m.body.length:Int),.bool false]] wi fun e w' => e=.returned (.tuple #[.agg #[.string (str fm.path),.string (str fm.target),.int .u8 (fm.kind.toNat:Int),.int .i64 fm.mode,.int .i64 fm.uid,.int .i64 fm.gid,.int .i64 fm.time,.slice none 0 0],.int .i64 fe])∧Below wi.heap.size wi w':=fun wi hb => by
  have:=fromHead_any (headOfM m) wi h1 h2 (hT.below hb);rw [hfd] at this;unfold memC at this;simp only [hfb,List.length_nil] at this;exact this
 have HCF:=Lib.hid CF;have C1:=known_any m.kind;unfold memC;obtain ⟨kn,hkn⟩:∃ kn:Int,(m.kind.toNat:Int)=kn:=⟨_,rfl⟩;obtain ⟨bl,hbl⟩:∃ bl,m.body.length=bl:=⟨_,rfl⟩;rw [hkn,hbl] at HCF;rw [hkn] at C1;rw [hkn,hbl]
 have e1:((str fm.path).toList == (str m.path).toList)=decide (fm.path=m.path):=by
  rw [str_toList,str_toList]
  by_cases h:fm.path=m.path<;>simp [h]
 have e2:((str fm.target).toList == (str m.target).toList)=decide (fm.target=m.target):=by
  rw [str_toList,str_toList]
  by_cases h:fm.target=m.target<;>simp [h]
 rw [hfd];simp only;obtain ⟨x0,hx0⟩:∃ x,knownD m.kind=x:=⟨_,rfl⟩;obtain ⟨x1,hx1⟩:∃ x,decide (fm.path=m.path)=x:=⟨_,rfl⟩;obtain ⟨x2,hx2⟩:∃ x,decide (fm.target=m.target)=x:=⟨_,rfl⟩;rw [hx0] at C1;rw [hx0,hx1,hx2];rw [hx1] at e1;rw [hx2] at e2;have HB:=Lib.hid ((Below.refl w.heap.size w).alloc (Nat.le_refl _) (.cells #[.string (str m.path),.string (str m.target),.int .u8 kn,.int .i64 m.mode,.int .i64 m.uid,.int .i64 m.gid,.int .i64 m.time,.slice p bl c] 50));have HX:=Lib.hid (Blk.new w 50 #[.string (str m.path),.string (str m.target),.int .u8 kn,.int .i64 m.mode,.int .i64 m.uid,.int .i64 m.gid,.int .i64 m.time,.slice p bl c])
 clear hx0 hx1 hx2 hkn hbl hfd hfb CF h1 h2 hT
 cases x0 with
 | false =>
   go_enter Tryd.func29,Tryd.ntmps29
   go_wp2_with fail
   refine (C1 _).mono ?_
   rintro e w1 ⟨rfl,rfl⟩
   go_wp2
   go_ret
   exact ⟨rfl,HB.out⟩
 | true =>
   have hb3:∀ (wi:World),Below (w.alloc (.cells #[.string (str m.path),.string (str m.target),.int .u8 kn,.int .i64 m.mode,.int .i64 m.uid,.int .i64 m.gid,.int .i64 m.time,.slice p bl c] 50)).heap.size (w.alloc (.cells #[.string (str m.path),.string (str m.target),.int .u8 kn,.int .i64 m.mode,.int .i64 m.uid,.int .i64 m.gid,.int .i64 m.time,.slice p bl c] 50)) wi → Below w.heap.size w (wi.alloc (.cells #[.string (str fm.path),.string (str fm.target),.int .u8 (fm.kind.toNat:Int),.int .i64 fm.mode,.int .i64 fm.uid,.int .i64 fm.gid,.int .i64 fm.time,.slice none 0 0] 50))  :=fun wi hb =>
    (HB.out.trans (hb.mono HB.out.size)).alloc (HB.out.trans (hb.mono HB.out.size)).size _
   have HB3:=Lib.hid hb3;clear hb3
   by_cases h0:fe=0
   ·subst h0
    go_enter Tryd.func29,Tryd.ntmps29
    go_wp2_with fail
    refine (C1 _).mono ?_
    rintro e w1 ⟨rfl,rfl⟩
    go_wp2_with fail
    refine (HCF.out _ HB.out).mono ?_
    rintro e w2 ⟨rfl,hb⟩;have F:=Lib.hid (HB3.out _ hb);have b9:=HX.out.below (hb.alloc hb.size (.cells #[.string (str fm.path),.string (str fm.target),.int .u8 (fm.kind.toNat:Int),.int .i64 fm.mode,.int .i64 fm.uid,.int .i64 fm.gid,.int .i64 fm.time,.slice none 0 0] 50)) HX.out.lt;have y0:=b9.cell 0;have y1:=b9.cell 1;simp only [List.getElem?_toArray,List.getElem?_cons_zero,List.getElem?_cons_succ] at y0 y1;clear hb b9
    cases x1 with
    | false =>
      go_wp2
      go_ret
      exact ⟨rfl,F.out⟩
    | true =>
      go_wp2
      go_ret
      exact ⟨rfl,F.out⟩
   ·have hne:(fe == 0)=false:=by simpa using h0
    have hd:decide (fe=0)=false:=by simpa using h0
    rw [hd]
    go_enter Tryd.func29,Tryd.ntmps29
    go_wp2_with fail
    refine (C1 _).mono ?_
    rintro e w1 ⟨rfl,rfl⟩
    go_wp2_with fail
    refine (HCF.out _ HB.out).mono ?_
    rintro e w2 ⟨rfl,hb⟩;have F:=Lib.hid (HB3.out _ hb);clear hb
    go_wp2
    go_ret
    exact ⟨rfl,F.out⟩
end Go.Proofs.YtfhelebejclalaaDoor.Mem
end
section
namespace Go.Proofs.YtfhelebejclalaaDoor.Tre
open Go.ChangeShapes Go.WideShapes Go.ChangeAt Go.RowKit Base Byt Txt Bk Mem Go.Lib
set_option linter.unusedVariables false
set_option maxRecDepth 100000
def FitMs (xs:List MP):Prop:=∀ x ∈ xs,x.m.path.length≤140737488351232∧x.m.target.length≤140737488351232
def badAt (ms:List MemV):Option Nat:=ms.findIdx? fun m => !goodD m
def idxV (o:Option Nat):Int:=match o with | some i => (i:Int) | none => -1
theorem badAt_none {ms:List MemV} (h:∀ m ∈ ms,goodD m=true):badAt ms=none:=by
 rw [badAt,List.findIdx?_eq_none_iff];intro m hm;rw [h m hm];rfl
theorem badAt_some {ms:List MemV} {k:Nat} (hk:k < ms.length) (h0:∀ m ∈ ms.take k,goodD m=true) (h:goodD (ms.getD k zeroMv)=false):badAt ms=some k:=by
 rw [badAt,List.findIdx?_eq_some_iff_getElem];refine ⟨hk,?_,fun j hj => ?_⟩
 ·rw [List.getD,List.getElem?_eq_getElem hk] at h
  simpa using h
 ·have:=h0 ms[j] (by
   rw [List.mem_take_iff_getElem]
   exact ⟨j,by omega,rfl⟩)
  simpa using this
set_option maxHeartbeats 1000000 in
theorem notGood_any (m:MemV) (p:Option Addr) (c:Nat) (w:World) (h1:m.path.length≤140737488351232) (h2:m.target.length≤140737488351232) (hT:Path.Tabs w) :
 Calls Tryd.prog 31 #[.agg (memC m p c)] w fun e w' => e=.returned (.bool (!goodD m))∧Below w.heap.size w w':=by
 obtain ⟨W0,hW0⟩:∃ W0,w.alloc (.cells (memC m p c) 50)=W0:=⟨_,rfl⟩;have hB0:Below w.heap.size w W0:=by rw [← hW0];exact (Below.refl _ _).alloc (Nat.le_refl _) _
 have hG:=memGood_any m p c W0 h1 h2 (hT.below hB0);obtain ⟨r,hr⟩:∃ r,goodD m=r:=⟨_,rfl⟩;rw [hr] at hG ⊢;have HB0:=Lib.hid hB0;have HW0:=Lib.hid hW0;have HG:=Lib.hid hG;unfold memC at HW0 HG ⊢;clear hB0 hW0 hG hr
 go_enter Tryd.func31,Tryd.ntmps31
 go_wp2_with fail
 rw [HW0.out];refine HG.out.mono ?_
 rintro e w1 ⟨rfl,hb1⟩;have FIN:=Lib.hid (HB0.out.trans (hb1.mono HB0.out.size));clear hb1
 go_wp2
 go_ret
 exact ⟨rfl,FIN.out⟩
theorem getM_map (xs:List MP) (k:Nat):(xs.map MP.m).getD k zeroMv=(xs.getD k zeroP).m:=by
 rw [List.getD,List.getD,List.getElem?_map]
 cases xs[k]?<;>rfl
set_option maxHeartbeats 2000000 in
theorem index_any (p:Option Addr) (n c:Nat) (xs:List MP) (w:World) (h:MemsAt w p n xs) (hn:n≤1000000000) (hF:FitMs xs) (hT:Path.Tabs w) :
 Calls Tryd.prog 30 #[.slice p n c,.func (.func 31) #[] #[]] w fun e w' => e=.returned (.int .i64 (idxV (badAt (xs.map MP.m))))∧Below w.heap.size w w':=by
 have HM:=Lib.hid h;have HL:=Lib.hid h.1;have HF:=Lib.hid hF;have HT:=Lib.hid hT;clear h hF hT
 go_enter Tryd.func30,Tryd.ntmps30
 go_wp2_with fail
 go_loopw [5,8] (fun _ i wr => ∃ (j:Nat),j≤n∧i=.int .i64 (j:Int)∧Hid (∀ m ∈ (xs.map MP.m).take j,goodD m=true)∧Hid (Below w.heap.size w wr)) (fun _ i _ => n - (RowKit.intOf i).toNat)
 case atStart => exact ⟨0,Nat.zero_le _,rfl,Lib.hid (by simp),Lib.hid (Below.refl _ _)⟩
 case round =>
  obtain ⟨j,hj,rfl,hA,hB⟩:=hrel
  by_cases hlt:j < n
  ·have hlx:j < xs.length:=by rw [HL.out];exact hlt
   have hmem:=getP_mem xs j hlx;have hT1:=takeP_succ xs j hlx;have hfit:=HF.out _ hmem;obtain ⟨b,o,rfl,hb,hBd,c0,c1,c2,c3,c4,c5,c6,c7⟩:=(HM.out.below hB.out).cells hlt;have hG0:=getM_map xs j;obtain ⟨y,hy⟩:∃ y,xs.getD j zeroP=y:=⟨_,rfl⟩;rw [hy] at hT1 hmem hfit hBd c0 c1 c2 c3 c4 c5 c6 c7 hG0;rw [Nat.mul_comm] at c0 c1 c2 c3 c4 c5 c6 c7;have hG:=notGood_any y.m y.p y.c wr hfit.1 hfit.2 (HT.out.below hB.out);unfold memC at hG;obtain ⟨r,hr⟩:∃ r,goodD y.m=r:=⟨_,rfl⟩;rw [hr] at hG;have HT1:=Lib.hid hT1;have HR:=Lib.hid hr;have HG0:=Lib.hid hG0;have HG:=Lib.hid hG
   have hltz:(j:Int) < (n:Int):=by omega
   clear hT1 hb hy hG hr hmem hlx hfit hBd hG0
   cases r with
   | true =>
     go_wp2_with fail
     refine HG.out.mono ?_
     rintro e w2 ⟨rfl,hb2⟩;have HB2:=Lib.hid (hB.out.trans (hb2.mono hB.out.size));clear hb2 c0 c1 c2 c3 c4 c5 c6 c7
     go_wp2
     go_roundw
     case rel => exact ⟨j+1,by omega,by go_num,Lib.hid (fun x hx => by
      rw [← List.map_take,HT1.out,List.mem_append] at hx;rcases hx with hx | hx
      ·exact hA.out x (by rw [← List.map_take];exact hx)
      ·rw [List.mem_singleton.1 hx];exact HR.out),HB2⟩
     case measure => simp [RowKit.intOf];omega
   | false =>
     go_wp2_with fail
     refine HG.out.mono ?_
     rintro e w2 ⟨rfl,hb2⟩;have HB2:=Lib.hid (hB.out.trans (hb2.mono hB.out.size));have E:Hid (badAt (xs.map MP.m)=some j):=Lib.hid (badAt_some (by rw [List.length_map,HL.out];exact hlt) hA.out (by rw [HG0.out];exact HR.out))
     clear hb2 c0 c1 c2 c3 c4 c5 c6 c7
     go_wp2
     go_ret
     exact ⟨by rw [E.out];rfl,HB2.out⟩
  ·have hks:¬ ((j:Int) < (n:Int)):=by omega
   have E:Hid (badAt (xs.map MP.m)=none):=Lib.hid (badAt_none (fun x hx => hA.out x (by rw [List.take_of_length_le (by rw [List.length_map,HL.out];omega)];exact hx)))
   go_wp2
   go_ret
   exact ⟨by rw [E.out];rfl,hB.out⟩
end Go.Proofs.YtfhelebejclalaaDoor.Tre
end
section
namespace Go.Proofs.YtfhelebejclalaaDoor.Mem
open Go.ChangeShapes Go.WideShapes Go.ChangeAt Go.RowKit Base Byt Txt Bk Hp Head Num Path Go.Lib
set_option linter.unusedVariables false
set_option maxRecDepth 100000
theorem eqMeta_deep (a b c d a' b' c' d':Int) (n:Nat) (w:World):(Op.equalIn (n+1+1) 43 (.agg #[.int .i64 a,.int .i64 b,.int .i64 c,.int .i64 d]) (.agg #[.int .i64 a',.int .i64 b',.int .i64 c',.int .i64 d'])).run Tryd.prog w=.ok (decide (a=a'∧b=b'∧c=c'∧d=d')) w:=by
 have hM:Tryd.prog.underlying 43=some (.struct (Tryd.prog.fieldsOf 43)):=by kernel_rfl
 have pM:Tryd.prog.stoodInHeld 43=false:=by kernel_rfl
 rw [run_equalIn_agg (P:=Tryd.prog) w (n+1) 43 _ _ hM pM];clear hM pM;simp only [Program.fieldsOf,Tryd.underlying43]
 go_simp
 by_cases h4:a=a'<;>by_cases h5:b=b'<;>by_cases h6:c=c'<;>by_cases h7:d=d'<;>simp [h4,h5,h6,h7]
theorem eqMeta (a b c d a' b' c' d':Int) (w:World):(binOp .eql 43 (.agg #[.int .i64 a,.int .i64 b,.int .i64 c,.int .i64 d]) (.agg #[.int .i64 a',.int .i64 b',.int .i64 c',.int .i64 d'])).run Tryd.prog w=.ok (.bool (decide (a=a'∧b=b'∧c=c'∧d=d'))) w:=by
 rw [run_eql_struct,show (10000:Nat)=9998+1+1 from rfl,eqMeta_deep]
 rfl
theorem same_is (a b:MemV):decide (a=b)=(decide (a.path=b.path) && (decide (a.target=b.target) && ((((a.kind.toNat:Int)) == (b.kind.toNat:Int)) && (decide (a.mode=b.mode∧a.uid=b.uid∧a.gid=b.gid∧a.time=b.time) && decide (a.body=b.body))))):=by
 have s2:(((a.kind.toNat:Int)) == (b.kind.toNat:Int))=decide (a.kind=b.kind):=by
  by_cases h:a.kind=b.kind
  ·simp [h]
  ·have:¬ a.kind.toNat=b.kind.toNat:=fun hh => h (UInt8.toNat.inj hh)
   simp only [h,decide_false,beq_eq_false_iff_ne,ne_eq];omega
 rw [s2,Bool.eq_iff_iff];simp only [decide_eq_true_eq,Bool.and_eq_true];constructor
 ·rintro rfl;simp
 ·rintro ⟨h1,h2,h3,⟨h4,h5,h6,h7⟩,h8⟩
  cases a;cases b;simp_all
end Go.Proofs.YtfhelebejclalaaDoor.Mem
end
section
namespace Go.Proofs.YtfhelebejclalaaDoor.Tre
open Go.ChangeShapes Go.WideShapes Go.ChangeAt Go.RowKit Base Byt Txt Bk Mem Go.Lib
set_option linter.unusedVariables false
set_option maxRecDepth 100000
theorem eqP_is (a b:NodeV):eqN a b=(decide (a.path=b.path) && (decide (a.target=b.target) && ((((a.kind.toNat:Int)) == (b.kind.toNat:Int)) && (decide (a.mode=b.mode∧a.uid=b.uid∧a.gid=b.gid∧a.time=b.time) && decide (a.body=b.body))))):=same_is a.mem b.mem
theorem eqR_is (a b:NodeV):eqN a b=(decide (a.path=b.path) && ((((a.kind.toNat:Int)) == (b.kind.toNat:Int)) && (decide (a.mode=b.mode∧a.uid=b.uid∧a.gid=b.gid∧a.time=b.time) && (decide (a.target=b.target) && decide (a.body=b.body))))):=by
 rw [eqP_is]
 cases decide (a.path=b.path)<;>cases decide (a.target=b.target)<;>cases (((a.kind.toNat:Int)) == (b.kind.toNat:Int))<;>cases decide (a.mode=b.mode∧a.uid=b.uid∧a.gid=b.gid∧a.time=b.time)<;>cases decide (a.body=b.body)<;>rfl
set_option maxHeartbeats 4000000 in
theorem requalN_any (a b:NP) (w:World) (h1:BodAt w a) (h2:BodAt w b) :
 Calls Tryd.prog 35 #[.agg a.cs,.agg b.cs] w fun e w' => e=.returned (.bool (eqN a.m b.m))∧Below w.heap.size w w':=by
 rw [eqR_is];have h1:=h1.bat;have h2:=h2.bat;unfold NP.cs nodC;obtain ⟨n,hn⟩:∃ n,a.m.body.length=n:=⟨_,rfl⟩;obtain ⟨m,hm⟩:∃ m,b.m.body.length=m:=⟨_,rfl⟩;obtain ⟨ka,hka⟩:∃ k:Int,(a.m.kind.toNat:Int)=k:=⟨_,rfl⟩;obtain ⟨kb,hkb⟩:∃ k:Int,(b.m.kind.toNat:Int)=k:=⟨_,rfl⟩;rw [hn] at h1;rw [hm] at h2;rw [hn,hm,hka,hkb]
 have e1:((str a.m.path).toList == (str b.m.path).toList)=decide (a.m.path=b.m.path):=by
  rw [str_toList,str_toList]
  by_cases h:a.m.path=b.m.path<;>simp [h]
 have e2:((str a.m.target).toList == (str b.m.target).toList)=decide (a.m.target=b.m.target):=by
  rw [str_toList,str_toList]
  by_cases h:a.m.target=b.m.target<;>simp [h]
 have e4:=fun w => eqMeta a.m.mode a.m.uid a.m.gid a.m.time b.m.mode b.m.uid b.m.gid b.m.time w
 have e5:((str a.m.body).toList == (str b.m.body).toList)=decide (a.m.body=b.m.body):=by
  rw [str_toList,str_toList]
  by_cases h:a.m.body=b.m.body<;>simp [h]
 obtain ⟨x1,hx1⟩:∃ x,decide (a.m.path=b.m.path)=x:=⟨_,rfl⟩;obtain ⟨x2,hx2⟩:∃ x,decide (a.m.target=b.m.target)=x:=⟨_,rfl⟩;obtain ⟨x3,e3⟩:∃ x,(ka == kb)=x:=⟨_,rfl⟩;obtain ⟨x4,hx4⟩:∃ x,decide (a.m.mode=b.m.mode∧a.m.uid=b.m.uid∧a.m.gid=b.m.gid∧a.m.time=b.m.time)=x:=⟨_,rfl⟩;obtain ⟨x5,hx5⟩:∃ x,decide (a.m.body=b.m.body)=x:=⟨_,rfl⟩;rw [hx1] at e1;rw [hx2] at e2;simp only [hx4] at e4;rw [hx5] at e5;rw [hx1,hx2,e3,hx4,hx5];have HX5:=Lib.hid hx5;have HL:=Lib.hid (And.intro hn hm);clear hx1 hx2 hx4 hx5 hn hm hka hkb;obtain ⟨W2,hW2⟩:∃ W2,(w.alloc (.cells #[.string (str a.m.path),.string (str a.m.target),.string (str a.m.leader),.int .u8 ka,.int .i64 a.m.mode,.int .i64 a.m.uid,.int .i64 a.m.gid,.int .i64 a.m.time,.slice a.p n a.c] 45)).alloc (.cells #[.string (str b.m.path),.string (str b.m.target),.string (str b.m.leader),.int .u8 kb,.int .i64 b.m.mode,.int .i64 b.m.uid,.int .i64 b.m.gid,.int .i64 b.m.time,.slice b.p m b.c] 45)=W2:=⟨_,rfl⟩
 have hB:Below w.heap.size w W2:=by rw [← hW2];exact ((Below.refl w.heap.size w).alloc (Nat.le_refl _) _).alloc (by simp) _
 have HB:=Lib.hid hB;have HA:=Lib.hid (h1.below hB);have HBB:=Lib.hid (h2.below hB);have hX:Blk W2 w.heap.size 45 #[.string (str a.m.path),.string (str a.m.target),.string (str a.m.leader),.int .u8 ka,.int .i64 a.m.mode,.int .i64 a.m.uid,.int .i64 a.m.gid,.int .i64 a.m.time,.slice a.p n a.c]:=by rw [← hW2];exact (Blk.new w _ _).alloc _
 have hY:Blk W2 (w.heap.size+1) 45 #[.string (str b.m.path),.string (str b.m.target),.string (str b.m.leader),.int .u8 kb,.int .i64 b.m.mode,.int .i64 b.m.uid,.int .i64 b.m.gid,.int .i64 b.m.time,.slice b.p m b.c]:=by
  have:=Blk.new (w.alloc (.cells #[.string (str a.m.path),.string (str a.m.target),.string (str a.m.leader),.int .u8 ka,.int .i64 a.m.mode,.int .i64 a.m.uid,.int .i64 a.m.gid,.int .i64 a.m.time,.slice a.p n a.c] 45)) 45 #[.string (str b.m.path),.string (str b.m.target),.string (str b.m.leader),.int .u8 kb,.int .i64 b.m.mode,.int .i64 b.m.uid,.int .i64 b.m.gid,.int .i64 b.m.time,.slice b.p m b.c];rw [World.size_alloc] at this;rw [← hW2];exact this
 have c0:=hX.cell 0;have d0:=hY.cell 0;have c1:=hX.cell 1;have d1:=hY.cell 1;have c3:=hX.cell 3;have d3:=hY.cell 3;have c4:=hX.cell 4;have d4:=hY.cell 4;have c5:=hX.cell 5;have d5:=hY.cell 5;have c6:=hX.cell 6;have d6:=hY.cell 6;have c7:=hX.cell 7;have d7:=hY.cell 7;have c8:=hX.cell 8;have d8:=hY.cell 8;simp only [List.getElem?_toArray,List.getElem?_cons_zero,List.getElem?_cons_succ] at c0 d0 c1 d1 c3 d3 c4 d4 c5 d5 c6 d6 c7 d7 c8 d8;have v1:(convert 23 9 (.slice a.p n a.c)).run Tryd.prog W2=.ok (.string (str a.m.body)) W2:=conv_at HA.out HL.out.1 _ _ _ Tryd.underlying23 Tryd.underlying5 Tryd.underlying9 _
 have v2:(convert 23 9 (.slice b.p m b.c)).run Tryd.prog W2=.ok (.string (str b.m.body)) W2:=conv_at HBB.out HL.out.2 _ _ _ Tryd.underlying23 Tryd.underlying5 Tryd.underlying9 _;clear hX hY hB h1 h2
 cases x1 with
 | false =>
   go_enter Tryd.func35,Tryd.ntmps35
   go_upto_region 1 with fail
   clear hW2
   go_wp2
   go_ret
   exact ⟨rfl,HB.out⟩
 | true =>
   cases x3 with
   | false =>
     go_enter Tryd.func35,Tryd.ntmps35
     go_upto_region 1 with fail
     clear hW2
     go_wp2
     go_ret
     exact ⟨rfl,HB.out⟩
   | true =>
     cases x4 with
     | false =>
       go_enter Tryd.func35,Tryd.ntmps35
       go_upto_region 1 with fail
       clear hW2
       go_wp2
       go_ret
       exact ⟨rfl,HB.out⟩
     | true =>
       cases x2 with
       | false =>
         go_enter Tryd.func35,Tryd.ntmps35
         go_upto_region 1 with fail
         clear hW2
         go_wp2
         go_ret
         exact ⟨rfl,HB.out⟩
       | true =>
         go_enter Tryd.func35,Tryd.ntmps35
         go_upto_region 1 with fail
         clear hW2
         go_wp2
         go_ret
         exact ⟨rfl,HB.out⟩
end Go.Proofs.YtfhelebejclalaaDoor.Tre
end
