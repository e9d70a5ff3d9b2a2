/- Texts of this seat, merged: what the proof reaches. -/
import Derived.Test.YtnpkcneojilmkaaGreatDoorMemberGNUX19
import Derived.Shelf.Unicode.ValidAny
import Derived.RangeFuncNested
import Derived.RangeFuncBound
import Derived.RangeFuncCalls
import Derived.RangeFuncLeaves
import Derived.Shelf.Abstract
import Derived.Shelf.RegionOpen
import Derived.WalkKit
import Derived.OwnWalkIn
import Derived.TacticsInMore
import Derived.LoopNIn
import Derived.LoopIn
import Derived.Test.YtnpkcneojilmkaaGreatDoorMemberGNUX11
import Derived.Test.YtnpkcneojilmkaaGreatDoorMemberGNUX28
import Derived.Test.YtnpkcneojilmkaaGreatDoorMemberGNUX24
import Derived.Laws.ResultCell
import Derived.Deep.DeepCutAuto
import Derived.Test.YtnpkcneojilmkaaGreatDoorMemberGNUX21
import Derived.Test.YtnpkcneojilmkaaGreatDoorMemberGNUX13
import Derived.Test.YtnpkcneojilmkaaGreatDoorMemberGNUX26
import Derived.Test.YtnpkcneojilmkaaGreatDoorMemberGNUX14
import Derived.Test.YtnpkcneojilmkaaGreatDoorMemberGNUX27
import Derived.Lib.ItoaNum
import Derived.Lib.LaidTab
import Derived.Deep.Draws
import Derived.Shelf.RegionOpenPlain
section
namespace Go.Proofs.YtnpkcneojilmkaaGreatDoor.Path
open Go.ChangeShapes Go.WideShapes Go.ChangeAt Go.RowKit Go.Shelf Base Byt Txt Go.Lib Num
set_option linter.unusedVariables false
set_option maxRecDepth 100000
theorem right_any (l:List UInt8) (w:World) (hm:l.length≤1000000000000) (hT:Tabs w) :
 Calls Tryz.prog 94 #[.string (str l)] w fun e w' => e=.returned (.bool (textD l))∧Below w.heap.size w w':=by
 have hV:=Any.utf8_ValidString Tryz.laysValid (str l) w (by rw [str_size];omega) hT
 have hC:=fun w => Any.strings_Contains_one Tryz.laysConts (str l) 0 w
 rw [str_data] at hV;simp only [str_data,index_has] at hC;rw [text_valid];have mixed:Tryz.prog.follows .mixedOrders=true:=by kernel_rfl
 clear hT hm
 cases hv:Lib.validD l with
 | false =>
   rw [hv] at hV;clear hC
   go_enter Tryz.func94,Tryz.ntmps94
   go_wp2_with (go_at_call 124;refine hV.mono ?_;rintro e w1 ⟨rfl,hb⟩)
   go_ret
   exact ⟨rfl,hb⟩
 | true =>
   rw [hv] at hV
   cases hc:l.contains 0 with
   | false =>
     rw [hc] at hC
     go_enter Tryz.func94,Tryz.ntmps94
     go_wp2_with (first | (go_at_call 124;refine hV.mono ?_;rintro e w1 ⟨rfl,hb⟩) | (go_at_call 118;refine (hC _).mono ?_;rintro e w2 ⟨rfl,rfl⟩))
     go_ret
     exact ⟨rfl,hb⟩
   | true =>
     rw [hc] at hC
     go_enter Tryz.func94,Tryz.ntmps94
     go_wp2_with (first | (go_at_call 124;refine hV.mono ?_;rintro e w1 ⟨rfl,hb⟩) | (go_at_call 118;refine (hC _).mono ?_;rintro e w2 ⟨rfl,rfl⟩))
     go_ret
     exact ⟨rfl,hb⟩
theorem target_any (l:List UInt8) (w:World) (hm:l.length≤1000000000000) (hT:Tabs w) :
 Calls Tryz.prog 99 #[.string (str l)] w fun e w' => e=.returned (.int .i64 (targetD 9 6 l))∧Below w.heap.size w w':=by
 have hR:=right_any l w hm hT;have hs:(str l).size=l.length:=str_size l;unfold targetD;clear hT
 cases ht:textD l with
 | false =>
   rw [ht] at hR;rw [if_pos rfl];clear hm hs
   go_enter Tryz.func99,Tryz.ntmps99
   go_wp2_with (go_at_call 94;refine hR.mono ?_;rintro e w1 ⟨rfl,hb⟩)
   go_ret
   exact ⟨rfl,hb⟩
 | true =>
   rw [ht] at hR;rw [if_neg (by simp)]
   obtain ⟨n,hn⟩:∃ n,(str l).size=n:=⟨_,rfl⟩
   by_cases h:l=[] ∨ 200 < l.length
   ·have hi:inB (n:Int) 1 200=false:=by
     refine inB_false ?_
     rw [← hn,hs];rcases h with rfl | h
     ·simp
     ·omega
    rw [if_pos h];clear hm hs h
    go_enter Tryz.func99,Tryz.ntmps99
    go_wp2_with (first | (go_at_call 94;refine hR.mono ?_;rintro e w1 ⟨rfl,hb⟩) | (go_at_call 98;refine (in_any _ _ _ _).mono ?_;rw [hi];rintro e w2 ⟨rfl,rfl⟩))
    go_ret
    exact ⟨rfl,hb⟩
   ·have hi:inB (n:Int) 1 200=true:=by
     have:0 < l.length:=List.length_pos_iff.2 fun e => h (.inl e)
     exact inB_true (by omega) (by omega)
    rw [if_neg h];clear hm hs h
    go_enter Tryz.func99,Tryz.ntmps99
    go_wp2_with (first | (go_at_call 94;refine hR.mono ?_;rintro e w1 ⟨rfl,hb⟩) | (go_at_call 98;refine (in_any _ _ _ _).mono ?_;rw [hi];rintro e w2 ⟨rfl,rfl⟩))
    go_ret
    exact ⟨rfl,hb⟩
end Go.Proofs.YtnpkcneojilmkaaGreatDoor.Path
end
section
namespace Go.Proofs.YtnpkcneojilmkaaGreatDoor.Path
open Go.ChangeShapes Go.WideShapes Go.ChangeAt Go.RowKit Go.Shelf Base Byt Txt Go.Lib Num
set_option linter.unusedVariables false
set_option maxRecDepth 100000
attribute [local go_sem] Oper.semAt_some
theorem abides_drewN {β:Type} {B:Nat} {J:β → World → Prop} (h:AbidesFrom B J) {s:β} {w:World} (hs:J s w) (n:Nat):J s (w.drewN n):=
 match n with
 | 0 => hs
 | n+1 => h s (w.drewN n) _ none (abides_drewN h hs n) ⟨rfl,rfl,rfl,Nat.le_refl _,fun _ _ _ => rfl⟩ (fun r e => by cases e)
def leftL (m:Bool) (l:List UInt8):List (List UInt8):=if m then partsL l else []
theorem left_cut (l:List UInt8):leftL true l=(cutL l).1 :: leftL (cutL l).2.2 (cutL l).2.1:=by
 unfold leftL cutL;rw [if_pos rfl];obtain ⟨h1,h2⟩:=parts_cut l
 by_cases h:0≤Lib.indexByte l 47
 ·rw [if_pos h,h1 h]
  simp
 ·rw [if_neg h,h2 h]
  simp
theorem cut_less (l:List UInt8):(cutL l).2.1.length+(if (cutL l).2.2 then 1 else 0) < l.length+1:=by
 unfold cutL
 by_cases h:0≤Lib.indexByte l 47
 ·rw [if_pos h]
  obtain ⟨k,hk⟩:∃ k:Nat,Lib.indexByte l 47=k:=⟨(Lib.indexByte l 47).toNat,by omega⟩
  have hlt:=(List.getElem?_eq_some_iff.1 (Lib.indexByte_some hk).1).1;simp only [List.length_drop,hk,Int.toNat_natCast,if_true];omega
 ·rw [if_neg h]
  simp
def leftN (r m:Value):Nat:=(match r with | .string s => s.size | _ => 0)+(match m with | .bool true => 1 | _ => 0)
abbrev Part:={ x:List UInt8 // x.length≤1000000000000 }
theorem parts_len (l:List UInt8):∀ p ∈ partsL l,p.length≤l.length:=by
 induction l with
 | nil => simp [partsL]
 | cons b l ih =>
   unfold partsL
   by_cases hb:b=47
   ·rw [if_pos hb]
    intro p hp;rcases List.mem_cons.1 hp with rfl | hp
    ·simp
    ·have:=ih p hp;rw [List.length_cons];omega
   ·rw [if_neg hb]
    cases hq:partsL l with
    | nil => exact absurd hq (parts_ne l)
    | cons q qs =>
      rw [hq] at ih;intro p hp;rcases List.mem_cons.1 hp with rfl | hp
      ·have:=ih q (by simp)
       simp only [List.headD_cons,List.length_cons];omega
      ·have:=ih p (List.mem_cons_of_mem _ hp);rw [List.length_cons];omega
theorem some_parts (s:List UInt8) (hm:s.length≤1000000000000):∃ ps:List Part,ps.map (·.1)=partsL s:=by
 refine ⟨(partsL s).attachWith _ (fun p hp => Nat.le_trans (parts_len s p hp) hm),?_⟩
 simp
set_option maxHeartbeats 1000000 in
theorem seq_in (F:Fence) (n:Nat) (hF:F=Fence.wide) (hn:1≤n) (l Bn:Nat) (s:List UInt8) (hm:s.length≤1000000000000) (ps:List Part) (hps:ps.map (·.1)=partsL s) (J Jx:List Part → World → Prop) (B:Nat) (hJ:AbidesFrom B J)
 (hY:∀ pre x W,J pre W → pre.length < ps.length → YieldAt F (n - 1) Tryz.prog l #[.string (str x.1)] W fun e W' =>
  (e=.returned (.bool true)∧J (pre++[x]) W'∧True) ∨ (e=.returned (.bool false)∧Jx (pre++[x]) W'))
 (W:World) (hBn:W.cell? ⟨Bn,0,none⟩=some (.string (str s))) (h0:J [] W) :
 CallsIn F n Tryz.prog 126 #[.func (.yield l) #[] #[],.pointer (some ⟨Bn,0,none⟩)] W fun e W' => (∃ v,e=.returned v) ∧
  ((∃ ys,ys=ps∧J ys W') ∨ (∃ pre,pre <+: ps∧Jx pre W')):=by
 subst hF;refine callsIn_of_wp Tryz.func126 rfl trivial ?_ rfl;simp only [Tryz.ntmps126,List.size_toArray,List.length_cons,List.length_nil,Nat.reduceAdd,Nat.reduceSub,Array.replicate_succ,Array.replicate_zero,List.push_toArray,List.append_toArray,List.nil_append,List.cons_append]
 gi_wp2
 gi_loopw [3,4] (fun r m wr => ∃ (pre tl:List Part) (rest:List UInt8) (b:Bool),r=.string (str rest)∧m=.bool b∧Hid (ps=pre++tl∧tl.map (·.1)=leftL b rest)∧rest.length≤1000000000000∧J pre wr)
  (fun r m wr => leftN r m)
 case atStart => exact ⟨[],ps,s,true,rfl,rfl,⟨rfl,hps⟩,hm,h0⟩
 case round =>
  obtain ⟨pre,tl,rest,b,rfl,rfl,hx,hr,hJs⟩:=hrel
  cases b with
  | false =>
    gi_wp2
    go_end0
    exact ⟨⟨_,rfl⟩,.inl ⟨pre,by obtain ⟨h1,h2⟩:=hx.out;obtain rfl:tl=[]:=List.map_eq_nil_iff.1 h2;simp [h1],hJs⟩⟩
  | true =>
    obtain ⟨hx1,hx2⟩:=hx.out;rw [left_cut] at hx2
    obtain ⟨x,tl',htl⟩:∃ x tl',tl=x :: tl':=by
     cases tl with
     | nil => simp at hx2
     | cons x tl' => exact ⟨x,tl',rfl⟩
    rw [htl,List.map_cons,List.cons.injEq] at hx2;have hc:=cutSlash_any rest wr hr;have hl:=cut_less rest;have hsz:(str rest).size=rest.length:=str_size rest;obtain ⟨p,hp⟩:∃ p:List UInt8,p=x.1:=⟨_,rfl⟩;obtain ⟨q,hq⟩:∃ q,q=(cutL rest).2.1:=⟨_,rfl⟩;obtain ⟨b,hb⟩:∃ b,b=(cutL rest).2.2:=⟨_,rfl⟩;rw [← hx2.1,← hp,← hq,← hb] at hc;rw [← hq,← hb] at hx2;rw [htl] at hx1;rw [← hq,← hb] at hl;have HX:=Lib.hid (And.intro hx1 hx2.2);have HL:=Lib.hid hl;have HS:=Lib.hid hsz
    have hgo0:∀ k,YieldAt Fence.wide (n - 1) Tryz.prog l #[.string (str x.1)] (wr.drewN k) fun e W' =>
     (e=.returned (.bool true)∧J (pre++[x]) W'∧True) ∨ (e=.returned (.bool false)∧Jx (pre++[x]) W'):=
     fun k => hY pre x _ (abides_drewN hJ hJs k) (by rw [hx1];simp)
    rw [← hp] at hgo0;clear hp hq hb hx1 hx2 hl hsz hx htl hY
    gi_wp2_with (refine ⟨trivial,?_⟩;gi_at_call 108;refine (callsIn_wide.2 hc).mono ?_;rintro e w' ⟨rfl,k,rfl⟩;obtain ⟨fn,tmps,assign,body,hy,hR⟩:=hgo0 k)
    refine hR.mono ?_
    rintro e W3 (⟨rfl,hJ3,-⟩ | ⟨rfl,hJx3⟩)
    ·gi_wp2
     go_roundw
     case rel => exact ⟨pre++[x],tl',q,b,rfl,rfl,⟨by rw [HX.out.1];simp,HX.out.2⟩,by have:=HL.out;omega,hJ3⟩
     case measure =>
      have h1:=HL.out;have h2:=HS.out;have h3:(str q).size=q.length:=str_size q
      cases b<;>simp [leftN,h2,h3] at h1 ⊢<;>omega
    ·gi_wp2
     refine bodyPost_ret (results_none rfl _ _ _) rfl ?_
     exact ⟨⟨_,rfl⟩,.inr ⟨pre++[x],by rw [HX.out.1];exact ⟨tl',by simp⟩,hJx3⟩⟩
theorem seq_stops (n:Nat) (hn:1≤n) (Bn:Nat) (s:List UInt8) (hm:s.length≤1000000000000) (ps:List Part) (hps:ps.map (·.1)=partsL s) (w:World) (hBn:Bn < w.heap.size) (hc:w.cell? ⟨Bn,0,none⟩=some (.string (str s))) :
 SeqStopsK Fence.wide n Tryz.prog 126 #[.pointer (some ⟨Bn,0,none⟩)] (fun x:Part => #[Value.string (str x.1)]) (fun _ _ => True) (fun ys => ys=ps) (fun pre => pre <+: ps) ps.length w:=fun l J Jx W hW hJ _ hY h0 =>
 seq_in Fence.wide n rfl hn l Bn s hm ps hps J Jx _ hJ hY W ((hW.cell (p:=⟨Bn,0,none⟩) hBn).trans hc) h0
theorem parts_any (s:List UInt8) (w:World) :
 Calls Tryz.prog 96 #[.string (str s)] w fun e w' => e=.returned (.func (.func 126) #[] #[.pointer (some ⟨w.heap.size,0,none⟩)])∧w'=w.alloc (.cells #[.string (str s)] 9):=by
 go_enter Tryz.func96,Tryz.ntmps96
 go_wp2
 go_ret
 exact ⟨rfl,rfl⟩
end Go.Proofs.YtnpkcneojilmkaaGreatDoor.Path
end
section
namespace Go.Proofs.YtnpkcneojilmkaaGreatDoor.Path
open Go.ChangeShapes Go.WideShapes Go.ChangeAt Go.RowKit Go.Shelf Base Byt Txt Go.Lib Num
set_option linter.unusedVariables false
set_option maxRecDepth 100000
attribute [local go_sem] Oper.semAt_some
theorem goP_app (a b:List (List UInt8)):∀ c,goP c (a++b)=(goP c a).bind fun d => goP d b:=by
 induction a with
 | nil => intro c;rfl
 | cons p a ih =>
   intro c;rw [List.cons_append,goP,goP]
   split
   ·rfl
   ·exact ih _
theorem goP_snoc (pre:List (List UInt8)) (p c d:List UInt8) (h:goP c pre=some d):goP c (pre++[p])=if p=[46,46] ∨ 200 < (joinP d p).length then none else some (joinP d p):=by
 rw [goP_app,h,Option.bind_some];unfold goP
 split<;>rfl
theorem goP_le (ps:List (List UInt8)):∀ c d,c.length≤200 → goP c ps=some d → d.length≤200:=by
 induction ps with
 | nil => intro c d hc h;cases h;exact hc
 | cons p ps ih =>
   intro c d hc h;unfold goP at h
   split at h
   ·cases h
   ·next hn => exact ih _ _ (by rcases Nat.lt_or_ge 200 (joinP c p).length with h' | h';exact absurd (.inr h') hn;exact h') h
theorem goP_none (a b:List (List UInt8)) (h:goP [] a=none):goP [] (a++b)=none:=by rw [goP_app,h];rfl
theorem head_slash_iff (l:List UInt8):Lib.hasPrefix l [47]=decide (l.head? = some 47):=by
 cases l with
 | nil => simp [Lib.hasPrefix]
 | cons b t =>
   by_cases h:b=47
   ·subst h;simp [Lib.hasPrefix]
   ·have h':¬ (47:UInt8)=b:=fun e => h e.symm
    simp [Lib.hasPrefix,List.isPrefixOf,h,h']
def Cell (W:World) (b:Nat) (v:Value):Prop:=W.cell? ⟨b,0,none⟩=some v∧W.frozen? ⟨b,0,none⟩=false
theorem Cell.kept {W W':World} {b:Nat} {v:Value} (h:Cell W b v) {row:Option Nat} (hg:W.grownBy W' row) (hr:∀ r,row=some r → ∃ o:Obj,W.heap[r]? = some o∧o.isCells=false):Cell W' b v:=
 ⟨cell_kept h.1 hg hr,(frozen_kept h.1 hg hr).trans h.2⟩
theorem Cell.below {W W':World} {b n:Nat} {v:Value} (h:Cell W b v) (hb:Below n W W') (hn:b < n):Cell W' b v:=
 ⟨(hb.cell (p:=⟨b,0,none⟩) hn).trans h.1,(hb.frozen (p:=⟨b,0,none⟩) hn).trans h.2⟩
theorem Cell.new (W:World) (v:Value) (t:TypeId):Cell (W.alloc (.cells #[v] t)) W.heap.size v:=by
 have h:=World.alloc_heap_new W (.cells #[v] t);unfold Cell World.cell? World.frozen?;rw [h];exact ⟨rfl,rfl⟩
theorem Cell.alloc {W:World} {b:Nat} {v:Value} (h:Cell W b v) (o:Obj):Cell (W.alloc o) b v:=h.kept (World.grownBy_alloc W o none) (fun r e => by cases e)
theorem Cell.set {W:World} {b:Nat} {v:Value} (h:Cell W b v) (u:Value):Cell (W.setCell ⟨b,0,none⟩ u) b u:=
 ⟨World.cell?_setCell_same' _ _ _ (by rw [h.1];rfl),by rw [World.frozen?_setCell];exact h.2⟩
theorem Cell.other {W:World} {b b':Nat} {v:Value} (h:Cell W b v) (u:Value) (hne:b'≠b):Cell (W.setCell ⟨b',0,none⟩ u) b v:=
 ⟨(World.cell?_setCell_other _ _ _ _ (fun e => hne (congrArg Addr.block e))).trans h.1,by rw [World.frozen?_setCell];exact h.2⟩
def restD (P:Int) (l:List UInt8):List UInt8 × Int:=
 if l.head? = some 47 then ([],P) else match goP [] (partsL l) with | none => ([],P) | some a => if a=[] then ([],P) else (a,0)
theorem clean_rest (T P:Int) (l:List UInt8):cleanD T P l=if textD l=false then ([],T) else restD P l:=clean_goP T P l
theorem ret_cells (W:World) (tm:Array Value) (b0 b1:Nat) (s:ByteArray) (e:Int) (h0:tm[2]? = some (.pointer (some ⟨b0,0,none⟩))) (h1:tm[3]? = some (.pointer (some ⟨b1,0,none⟩)))
 (c0:Cell W b0 (.string s)) (c1:Cell W b1 (.int .i64 e)):(results Tryz.f64 tm).run Tryz.prog W=.ok (.tuple #[.string s,.int .i64 e]) W:=by
 obtain ⟨c00,c01⟩:=c0;obtain ⟨c10,c11⟩:=c1;simp [results,Tryz.f64,go_sem,h0,h1,c00,c10]
set_option maxHeartbeats 2000000 in
theorem clean_any (l:List UInt8) (w:World) (hm:l.length≤1000000000000) (hT:Tabs w) :
 Calls Tryz.prog 64 #[.string (str l)] w fun e w' => e=.returned (.tuple #[.string (str (cleanD 9 6 l).1),.int .i64 (cleanD 9 6 l).2])∧Below w.heap.size w w':=by
 have hR:=fun w hT => right_any l w hm hT
 have hP:=fun w => Any.strings_HasPrefix Tryz.laysPrefix (str l) ⟨#[47]⟩ w
 rw [clean_rest];simp only [str_data,head_slash_iff] at hP;refine (callsIn_wide (n:=3)).1 ?_
 refine callsIn_of_wp_marks Tryz.func64 rfl trivial ?_ rfl;simp only [Tryz.ntmps64,List.size_toArray,List.length_cons,List.length_nil,Nat.reduceAdd,Nat.reduceSub,Array.replicate_succ,Array.replicate_zero,List.push_toArray,List.append_toArray,List.nil_append,List.cons_append];have hB0:Below w.heap.size w ((w.alloc (.cells #[.string ⟨#[]⟩] 9)).alloc (.cells #[.int .i64 0] 27)):=((Below.refl _ _).alloc (Nat.le_refl _) _).alloc (by simp) _
 have hT0:=hT.below hB0;have c0:Cell ((w.alloc (.cells #[.string ⟨#[]⟩] 9)).alloc (.cells #[.int .i64 0] 27)) w.heap.size (.string ⟨#[]⟩):=(Cell.new w _ _).alloc _
 have c1:Cell ((w.alloc (.cells #[.string ⟨#[]⟩] 9)).alloc (.cells #[.int .i64 0] 27)) (w.heap.size+1) (.int .i64 0):=by
  have:=Cell.new (w.alloc (.cells #[.string ⟨#[]⟩] 9)) (.int .i64 0) 27
  rwa [World.size_alloc] at this
 have HC:=Lib.hid (And.intro c0 c1);have HB:=Lib.hid hB0;clear c0 c1 hB0 hT
 cases ht:textD l with
 | false =>
   rw [if_pos rfl];have hR':=hR _ hT0;rw [ht] at hR'
   gi_wp2_with fail
   refine ⟨trivial,(callsIn_wide.2 hR').mono ?_⟩;rintro e w1 ⟨rfl,hb⟩;simp only [World.size_alloc] at hb;obtain ⟨d00,d01⟩:=HC.out.1.below hb (by omega)
   obtain ⟨d10,d11⟩:=HC.out.2.below hb (by omega)
   have HB1:=Lib.hid (HB.out.trans (hb.mono (by omega)))
   clear hb hR' hT0 hR hP
   gi_wp2_with fail
   refine ⟨_,ret_cells _ _ w.heap.size (w.heap.size+1) ⟨#[]⟩ 9 rfl rfl (((show Cell w1 w.heap.size _ from ⟨d00,d01⟩).set _).other _ (by omega)) (((show Cell w1 (w.heap.size+1) _ from ⟨d10,d11⟩).other _ (by omega)).set _),rfl,?_⟩
   exact (HB1.out.setCell (p:=⟨w.heap.size,0,none⟩) (Nat.le_refl _) _).setCell (p:=⟨w.heap.size+1,0,none⟩) (by simp) _
 | true =>
   rw [if_neg (by simp)]
   have hR':=hR _ hT0;rw [ht] at hR';obtain ⟨G,hG⟩:∃ G,restD 6 l=G:=⟨_,rfl⟩;rw [hG];unfold restD at hG;have HG:=Lib.hid hG;clear hG
   gi_wp2_with fail
   refine ⟨trivial,(callsIn_wide.2 hR').mono ?_⟩;rintro e w1 ⟨rfl,hb⟩;simp only [World.size_alloc] at hb;have d0:=HC.out.1.below hb (by omega)
   have d1:=HC.out.2.below hb (by omega)
   have HS1:Hid (w.heap.size+2≤w1.heap.size):=Lib.hid (by have:=hb.size;rw [World.size_alloc,World.size_alloc] at this;omega)
   have HB1:=Lib.hid (HB.out.trans (hb.mono (by omega)))
   clear hb hR' hT0 hR;have hP':=hP w1;clear hP
   by_cases h0:l.head? = some 47
   ·obtain rfl:([],6)=G:=by rw [← HG.out,if_pos h0]
    rw [decide_eq_true h0] at hP';clear h0;obtain ⟨d00,d01⟩:=d0;obtain ⟨d10,d11⟩:=d1
    gi_wp2_with fail
    refine ⟨trivial,(callsIn_wide.2 hP').mono ?_⟩;rintro e w' ⟨rfl,rfl⟩
    gi_wp2_with fail
    refine ⟨_,ret_cells _ _ w.heap.size (w.heap.size+1) ⟨#[]⟩ 6 rfl rfl (((show Cell w' w.heap.size _ from ⟨d00,d01⟩).set _).other _ (by omega)) (((show Cell w' (w.heap.size+1) _ from ⟨d10,d11⟩).other _ (by omega)).set _),rfl,?_⟩
    exact (HB1.out.setCell (p:=⟨w.heap.size,0,none⟩) (Nat.le_refl _) _).setCell (p:=⟨w.heap.size+1,0,none⟩) (by simp) _
   ·have hG:=HG.out
    rw [if_neg h0] at hG;rw [decide_eq_false h0] at hP';have HG2:=Lib.hid hG;clear h0 HG hG;have HD:=Lib.hid (And.intro d0 d1);clear d0 d1
    gi_wp2_with fail
    refine ⟨trivial,(callsIn_wide.2 hP').mono ?_⟩;rintro e w' ⟨rfl,rfl⟩
    gi_wp2_with fail
    have HB2:Hid (Below w.heap.size w ((w'.alloc (.cells #[.string ⟨#[]⟩] 9)).alloc (.cells #[.string (str l)] 9))):=
     Lib.hid ((HB1.out.alloc (by have:=HS1.out;omega) _).alloc (by have:=HS1.out;rw [World.size_alloc];omega) _)
    have HX:=Lib.hid (((Cell.new w' (.string ⟨#[]⟩) 9)).alloc (.cells #[.string (str l)] 9));have HY:=Lib.hid (And.intro ((HD.out.1.alloc (.cells #[.string ⟨#[]⟩] 9)).alloc (.cells #[.string (str l)] 9)) ((HD.out.2.alloc (.cells #[.string ⟨#[]⟩] 9)).alloc (.cells #[.string (str l)] 9)));have HZ:=Lib.hid (Cell.new (w'.alloc (.cells #[.string ⟨#[]⟩] 9)) (.string (str l)) 9);clear HB1 HD HC;obtain ⟨ps,hps⟩:=some_parts l hm;refine ⟨trivial,(callsIn_wide.2 (parts_any l _)).mono ?_⟩;rintro e w2 ⟨rfl,rfl⟩
    gi_wp2_with fail
    obtain ⟨n1,hn1⟩:∃ n1,w'.heap.size=n1:=⟨_,rfl⟩;obtain ⟨W0,hW0⟩:∃ W0,(w'.alloc (.cells #[.string ⟨#[]⟩] 9)).alloc (.cells #[.string (str l)] 9)=W0:=⟨_,rfl⟩;have HN:Hid (W0.heap.size=n1+2∧w.heap.size+2≤n1):=Lib.hid (by rw [← hW0,World.size_alloc,World.size_alloc];exact ⟨by omega,by have:=HS1.out;omega⟩)
    rw [hW0] at HB2 HX HY HZ ⊢;rw [World.size_alloc] at HZ;rw [hn1] at HX HZ ⊢;clear hW0 HS1 hn1 HB
    refine wpIn_rangeFunc_ownF rfl (by omega) (gf:=126) (lb:=#[.pointer (some ⟨n1+1,0,none⟩)]) rfl trivial (enters_of Tryz.func126 (by kernel_rfl) rfl)
     (seq_stops _ (by omega) (n1+1) l hm ps hps W0 (by rw [HN.out.1];omega) HZ.out.1) (fun _ _ => trivial) (fun _ _ _ _ _ _ _ _ => trivial) (Below.refl _ _) (fun _ => rfl)
     (fun pre W => (∃ c,goP [] (pre.map (·.1))=some c∧Cell W n1 (.string (str c))∧Cell W w.heap.size (.string ⟨#[]⟩)∧Cell W (w.heap.size+1) (.int .i64 0))∧Below w.heap.size w W)
     (fun c pre W => (c=.ret∧goP [] (pre.map (·.1))=none∧Cell W w.heap.size (.string ⟨#[]⟩)∧Cell W (w.heap.size+1) (.int .i64 6))∧Below w.heap.size w W)
     (OwnFrom.and (Own.from (fun s A B row hs hg hr => by obtain ⟨c,h1,h2,h3,h4⟩:=hs;exact ⟨c,h1,h2.kept hg hr,h3.kept hg hr,h4.kept hg hr⟩) _) (ownFrom_below (Nat.le_refl _) (by rw [HN.out.1];have:=HN.out.2;omega)))
     (fun c => OwnFrom.and (Own.from (fun s A B row hs hg hr => ⟨hs.1,hs.2.1,hs.2.2.1.kept hg hr,hs.2.2.2.kept hg hr⟩) _) (ownFrom_below (Nat.le_refl _) (by rw [HN.out.1];have:=HN.out.2;omega)))
     ⟨⟨[],rfl,HX.out,HY.out.1,HY.out.2⟩,HB2.out⟩
     (fun x => { tmps:=#[.string (str l),undef,.pointer (some ⟨w.heap.size,0,none⟩),.pointer (some ⟨w.heap.size+1,0,none⟩),.pointer (some ⟨n1,0,none⟩),.string (str x.1),.string (str l),.bool true,.bool false,.string (str l),.bool false,.string (str l),.func (.func 126) #[] #[.pointer (some ⟨n1+1,0,none⟩)],.string (str x.1),undef,undef,undef,undef,undef,undef,undef,undef,undef,undef,undef,undef,undef],defers:=[] }) ?assign ?body ?done ?stop
    case assign =>
     intro l x W K hK
     gi_wp2
     exact hK
    case body =>
     rintro l' pre x W ⟨⟨c,hg,c0,c1,c2⟩,hB⟩ _;have hc:=goP_le _ _ _ (by simp) hg
     have hj:=join_any c x.1 W (by have:=x.2;omega)
     have hs:=goP_snoc _ x.1 _ _ hg;obtain ⟨d,hd⟩:∃ d,joinP c x.1=d:=⟨_,rfl⟩;rw [hd] at hj hs;have e0:=(c0.set (.string (str d)));have e1:=(c1.other (.string (str d)) (show n1≠_ by have:=HN.out.2;omega))
     have e2:=(c2.other (.string (str d)) (show n1≠_ by have:=HN.out.2;omega))
     have hB1:=hB.setCell (p:=⟨n1,0,none⟩) (show w.heap.size≤n1 by have:=HN.out.2;omega) (.string (str d))
     have HE:=Lib.hid (And.intro e1 (And.intro e2 hB1));have hsz:((str d).size:Int)=d.length:=by rw [str_size]
     obtain ⟨f0,f1⟩:=c0;have HP:=Lib.hid hd
     by_cases hx:x.1=[46,46]
     ·have b1:((str x.1).toList == [46,46])=true:=by rw [str_is];simpa using hx
      rw [if_pos (.inl hx)] at hs;have hs':goP [] ((pre++[x]).map (·.1))=none:=by rw [List.map_append];exact hs
      have HS':=Lib.hid hs';clear hs hs' hx hd hg hc e1 e2 c1 c2 hB hB1 hsz
      gi_wp2_with fail
      refine ⟨trivial,(CallsIn.inRound l' (callsIn_wide.2 hj)).mono ?_⟩;rintro e w3 ⟨rfl,rfl⟩;obtain ⟨e00,e01⟩:=e0;obtain ⟨g00,g01⟩:=HE.out.1;obtain ⟨g10,g11⟩:=HE.out.2.1
      gi_wp2
      exact ⟨((KeepsOthers.setCell _ _ _).trans (KeepsOthers.setCell _ _ _)).trans (KeepsOthers.setCell _ _ _),⟨rfl,HS'.out,(HE.out.1.set _).other _ (by omega),(HE.out.2.1.other _ (by omega)).set _⟩,(HE.out.2.2.setCell (p:=⟨w.heap.size,0,none⟩) (Nat.le_refl _) _).setCell (p:=⟨w.heap.size+1,0,none⟩) (by simp) _⟩
     ·have b1:((str x.1).toList == [46,46])=false:=by rw [str_is];simpa using hx
      obtain ⟨n,hn⟩:∃ n,(str d).size=n:=⟨_,rfl⟩
      by_cases h2:200 < d.length
      ·have b2:(200:Int) < (n:Int):=by omega
       rw [if_pos (.inr h2)] at hs;have hs':goP [] ((pre++[x]).map (·.1))=none:=by rw [List.map_append];exact hs
       have HS':=Lib.hid hs';clear hs hs' hx hd hg hc e1 e2 c1 c2 hB hB1 hsz h2
       gi_wp2_with fail
       refine ⟨trivial,(CallsIn.inRound l' (callsIn_wide.2 hj)).mono ?_⟩;rintro e w3 ⟨rfl,rfl⟩;obtain ⟨e00,e01⟩:=e0;obtain ⟨g00,g01⟩:=HE.out.1;obtain ⟨g10,g11⟩:=HE.out.2.1
       gi_wp2
       exact ⟨((KeepsOthers.setCell _ _ _).trans (KeepsOthers.setCell _ _ _)).trans (KeepsOthers.setCell _ _ _),⟨rfl,HS'.out,(HE.out.1.set _).other _ (by omega),(HE.out.2.1.other _ (by omega)).set _⟩,(HE.out.2.2.setCell (p:=⟨w.heap.size,0,none⟩) (Nat.le_refl _) _).setCell (p:=⟨w.heap.size+1,0,none⟩) (by simp) _⟩
      ·have b2:¬ (200:Int) < (n:Int):=by omega
       rw [if_neg (fun h => h.elim hx h2)] at hs
       have hs':goP [] ((pre++[x]).map (·.1))=some d:=by rw [List.map_append];exact hs
       have HS':=Lib.hid hs';clear hs hs' hx hd hg hc e1 e2 c1 c2 hB hB1 hsz h2
       gi_wp2_with fail
       refine ⟨trivial,(CallsIn.inRound l' (callsIn_wide.2 hj)).mono ?_⟩;rintro e w3 ⟨rfl,rfl⟩;obtain ⟨e00,e01⟩:=id e0;obtain ⟨g00,g01⟩:=HE.out.1;obtain ⟨g10,g11⟩:=HE.out.2.1
       gi_wp2
       exact ⟨KeepsOthers.setCell _ _ _,trivial,⟨d,HS'.out,e0,HE.out.1,HE.out.2.1⟩,HE.out.2.2⟩
    case done =>
     rintro D ys W hD rfl ⟨⟨c,hg,c0,c1,c2⟩,hB⟩ hK;rw [hps] at hg;have hG:=HG2.out;rw [hg] at hG;simp only at hG;have hDw:w.heap.size≤D:=by have:=HN.out;omega
     obtain ⟨f0,f1⟩:=id c0;obtain ⟨g00,g01⟩:=id c1;obtain ⟨g10,g11⟩:=id c2;have HE:=Lib.hid (And.intro c1 (And.intro c2 hB));have HK:=Lib.hid hK
     by_cases hc:c=[]
     ·have b1:(str c).toList.isEmpty=true:=by rw [str_empty];simpa using hc
      obtain rfl:([],6)=G:=by rw [← hG,if_pos hc]
      clear hG hc hg HG2 c0 c1 c2 hB hK
      gi_wp2
      have hK':=((KeepsOthers.setCell W ⟨w.heap.size,0,none⟩ (.string ⟨#[]⟩)).trans (KeepsOthers.setCell _ ⟨w.heap.size+1,0,none⟩ (.int .i64 6))).same D _ HK.out rfl;refine ⟨by simp,.inl ⟨_,_,rfl,run_takeDeferred hK',?_⟩⟩
      have k0:=((HE.out.1.set (.string ⟨#[]⟩)).other (.int .i64 6) (show w.heap.size+1≠_ by omega)).kept (grownBy_putObj' _ D (.deferred none)) (fun r e => by cases e;exact ⟨_,hK',rfl⟩)
      have k1:=((HE.out.2.1.other (.string ⟨#[]⟩) (show w.heap.size≠_ by omega)).set (.int .i64 6)).kept (grownBy_putObj' _ D (.deferred none)) (fun r e => by cases e;exact ⟨_,hK',rfl⟩)
      exact ⟨_,ret_cells _ _ w.heap.size (w.heap.size+1) ⟨#[]⟩ 6 rfl rfl k0 k1,rfl,((HE.out.2.2.setCell (p:=⟨w.heap.size,0,none⟩) (Nat.le_refl _) _).setCell (p:=⟨w.heap.size+1,0,none⟩) (by simp) _).trans (belowK_b (w:=w) (Nat.le_refl _) _ D _ _ hDw hK' rfl rfl)⟩
     ·have b1:(str c).toList.isEmpty=false:=by rw [str_empty];simpa using hc
      obtain rfl:(c,0)=G:=by rw [← hG,if_neg hc]
      clear hG hc hg HG2 c0 c1 c2 hB hK
      gi_wp2
      have hK':=((KeepsOthers.setCell W ⟨w.heap.size,0,none⟩ (.string (str c))).trans (KeepsOthers.setCell _ ⟨w.heap.size+1,0,none⟩ (.int .i64 0))).same D _ HK.out rfl;refine ⟨by simp,.inl ⟨_,_,rfl,run_takeDeferred hK',?_⟩⟩
      have k0:=((HE.out.1.set (.string (str c))).other (.int .i64 0) (show w.heap.size+1≠_ by omega)).kept (grownBy_putObj' _ D (.deferred none)) (fun r e => by cases e;exact ⟨_,hK',rfl⟩)
      have k1:=((HE.out.2.1.other (.string (str c)) (show w.heap.size≠_ by omega)).set (.int .i64 0)).kept (grownBy_putObj' _ D (.deferred none)) (fun r e => by cases e;exact ⟨_,hK',rfl⟩)
      exact ⟨_,ret_cells _ _ w.heap.size (w.heap.size+1) (str c) 0 rfl rfl k0 k1,rfl,((HE.out.2.2.setCell (p:=⟨w.heap.size,0,none⟩) (Nat.le_refl _) _).setCell (p:=⟨w.heap.size+1,0,none⟩) (by simp) _).trans (belowK_b (w:=w) (Nat.le_refl _) _ D _ _ hDw hK' rfl rfl)⟩
    case stop =>
     rintro D c pre W hD hpre ⟨⟨rfl,hn,c1,c2⟩,hB⟩ hK;have hG:=HG2.out;obtain ⟨tl,htl⟩:=hpre;rw [← hps,← htl,List.map_append,goP_none _ _ hn] at hG;obtain rfl:([],6)=G:=hG;have hDw:w.heap.size≤D:=by have:=HN.out;omega
     have HE:=Lib.hid (And.intro c1 (And.intro c2 hB));have HK:=Lib.hid hK;clear htl hn HG2 c1 c2 hB hK
     gi_wp2
     have hK':=HK.out;refine ⟨by simp,.inl ⟨_,_,rfl,run_takeDeferred hK',?_⟩⟩
     have k0:=HE.out.1.kept (grownBy_putObj' _ D (.deferred none)) (fun r e => by cases e;exact ⟨_,hK',rfl⟩)
     have k1:=HE.out.2.1.kept (grownBy_putObj' _ D (.deferred none)) (fun r e => by cases e;exact ⟨_,hK',rfl⟩)
     exact ⟨_,ret_cells _ _ w.heap.size (w.heap.size+1) ⟨#[]⟩ 6 rfl rfl k0 k1,rfl,HE.out.2.2.trans (belowK_b (w:=w) (Nat.le_refl _) _ D _ _ hDw hK' rfl rfl)⟩
end Go.Proofs.YtnpkcneojilmkaaGreatDoor.Path
end
section
namespace Go.Proofs.YtnpkcneojilmkaaGreatDoor.Mem
open Go.ChangeShapes Go.WideShapes Go.ChangeAt Go.RowKit Base Byt Txt Bk Hp Head Num Path Go.Lib
set_option linter.unusedVariables false
set_option maxRecDepth 100000
theorem u8_lit (k:UInt8) (n:Nat) (hn:n < 256):((k.toNat:Int)=(n:Int)) ↔ k=UInt8.ofNat n:=by
 constructor
 ·intro h
  apply UInt8.toNat.inj;rw [UInt8.toNat_ofNat'];omega
 ·rintro rfl
  rw [UInt8.toNat_ofNat'];omega
theorem known_any (k:UInt8) (w:World) :
 Calls Tryz.prog 45 #[.int .u8 (k.toNat:Int)] w fun e w' => e=.returned (.bool (knownD k))∧w=w':=by
 have hb:=k.toNat_lt;have e0:(k.toNat:Int)=48 ↔ k=48:=u8_lit k 48 (by decide)
 have e1:(k.toNat:Int)=49 ↔ k=49:=u8_lit k 49 (by decide)
 have e2:(k.toNat:Int)=50 ↔ k=50:=u8_lit k 50 (by decide)
 have e3:(k.toNat:Int)=53 ↔ k=53:=u8_lit k 53 (by decide)
 obtain ⟨r,hr⟩:∃ r,knownD k=r:=⟨_,rfl⟩;rw [hr];unfold knownD at hr;obtain ⟨x,hx⟩:∃ x:Int,x=(k.toNat:Int):=⟨_,rfl⟩;rw [← hx] at e0 e1 e2 e3 ⊢
 by_cases h0:x=48
 ·obtain rfl:r=true:=by rw [← hr];simp [e0.1 h0]
  clear e0 e1 e2 e3 hr hx hb;subst h0
  go_enter Tryz.func45,Tryz.ntmps45
  go_wp2
  go_ret
  exact ⟨rfl,rfl⟩
 ·by_cases h1:x=49
  ·obtain rfl:r=true:=by rw [← hr];simp [e1.1 h1]
   clear e0 e1 e2 e3 hr hx hb;subst h1
   go_enter Tryz.func45,Tryz.ntmps45
   go_wp2
   go_ret
   exact ⟨rfl,rfl⟩
  ·by_cases h2:x=50
   ·obtain rfl:r=true:=by rw [← hr];simp [e2.1 h2]
    clear e0 e1 e2 e3 hr hx hb;subst h2
    go_enter Tryz.func45,Tryz.ntmps45
    go_wp2
    go_ret
    exact ⟨rfl,rfl⟩
   ·by_cases h3:x=53
    ·obtain rfl:r=true:=by rw [← hr];simp [e3.1 h3]
     clear e0 e1 e2 e3 hr hx hb;subst h3
     go_enter Tryz.func45,Tryz.ntmps45
     go_wp2
     go_ret
     exact ⟨rfl,rfl⟩
    ·obtain rfl:r=false:=by
      rw [← hr];have a0:¬ k=48:=fun h => h0 (e0.2 h)
      have a1:¬ k=49:=fun h => h1 (e1.2 h)
      have a2:¬ k=50:=fun h => h2 (e2.2 h)
      have a3:¬ k=53:=fun h => h3 (e3.2 h)
      simp [a0,a1,a2,a3]
     clear e0 e1 e2 e3 hr hx hb
     go_enter Tryz.func45,Tryz.ntmps45
     go_wp2
     go_ret
     exact ⟨rfl,rfl⟩
theorem size_any (k:UInt8) (n:Int) (w:World) :
 Calls Tryz.prog 67 #[.int .u8 (k.toNat:Int),.int .i64 n] w fun e w' => e=.returned (.int .i64 (sizeD k n))∧w=w':=by
 have hb:=k.toNat_lt;have e0:(k.toNat:Int)=48 ↔ k=48:=u8_lit k 48 (by decide)
 obtain ⟨r,hr⟩:∃ r,sizeD k n=r:=⟨_,rfl⟩;rw [hr];unfold sizeD at hr;obtain ⟨x,hx⟩:∃ x:Int,x=(k.toNat:Int):=⟨_,rfl⟩;rw [← hx] at e0 ⊢
 by_cases h0:x=48
 ·have hk:k=48:=e0.1 h0
  rw [if_neg (by simp [hk])] at hr
  by_cases h1:1048576 < n
  ·rw [if_pos h1] at hr
   subst hr;clear e0 hx hb;subst h0
   go_enter Tryz.func67,Tryz.ntmps67
   go_wp2
   go_ret
   exact ⟨rfl,rfl⟩
  ·rw [if_neg h1] at hr
   subst hr;clear e0 hx hb;subst h0
   go_enter Tryz.func67,Tryz.ntmps67
   go_wp2
   go_ret
   exact ⟨rfl,rfl⟩
 ·have hk:¬ k=48:=fun h => h0 (e0.2 h)
  by_cases hn:n=0
  ·subst hn
   rw [if_neg (by simp),if_neg (by omega)] at hr
   subst hr;clear e0 hx hb
   go_enter Tryz.func67,Tryz.ntmps67
   go_wp2
   go_ret
   exact ⟨rfl,rfl⟩
  ·rw [if_pos ⟨hk,hn⟩] at hr
   subst hr;clear e0 hx hb;have b0:(x != 48)=true:=by simpa using h0
   have bn:(n != 0)=true:=by simpa using hn
   go_enter Tryz.func67,Tryz.ntmps67
   go_wp2
   go_ret
   exact ⟨rfl,rfl⟩
theorem inBounds_any (a b c d:Int) (w:World) :
 Calls Tryz.prog 65 #[.agg #[.int .i64 a,.int .i64 b,.int .i64 c,.int .i64 d]] w fun e w' => e=.returned (.bool (metaOk a b c d))∧Below w.heap.size w w':=by
 obtain ⟨r,hr⟩:∃ r,metaOk a b c d=r:=⟨_,rfl⟩;rw [hr];unfold metaOk at hr;have hb:=(Below.refl w.heap.size w).alloc (Nat.le_refl _) (.cells #[.int .i64 a,.int .i64 b,.int .i64 c,.int .i64 d] 23);have HB:=Lib.hid hb;clear hb
 by_cases h1:0≤a∧a≤4095
 ·by_cases h2:0≤b∧b≤2147483647
  ·by_cases h3:0≤c∧c≤2147483647
   ·by_cases h4:0≤d∧d≤1099511627776
    ·obtain rfl:r=true:=by rw [← hr];simp only [decide_eq_true_eq];omega
     clear hr
     go_enter Tryz.func65,Tryz.ntmps65
     go_wp2_with (go_at_call 98;refine (in_yes _ _ _ _ (by omega) (by omega)).mono ?_;rintro e w' ⟨rfl,rfl⟩)
     go_ret
     exact ⟨rfl,HB.out⟩
    ·obtain rfl:r=false:=by rw [← hr];simp only [decide_eq_false_iff_not];omega
     clear hr
     go_enter Tryz.func65,Tryz.ntmps65
     go_wp2_with (go_at_call 98;first | (refine (in_yes _ _ _ _ (by omega) (by omega)).mono ?_;rintro e w' ⟨rfl,rfl⟩) | (refine (in_no _ _ _ _ (by omega)).mono ?_;rintro e w' ⟨rfl,rfl⟩))
     go_ret
     exact ⟨rfl,HB.out⟩
   ·obtain rfl:r=false:=by rw [← hr];simp only [decide_eq_false_iff_not];omega
    clear hr
    go_enter Tryz.func65,Tryz.ntmps65
    go_wp2_with (go_at_call 98;first | (refine (in_yes _ _ _ _ (by omega) (by omega)).mono ?_;rintro e w' ⟨rfl,rfl⟩) | (refine (in_no _ _ _ _ (by omega)).mono ?_;rintro e w' ⟨rfl,rfl⟩))
    go_ret
    exact ⟨rfl,HB.out⟩
  ·obtain rfl:r=false:=by rw [← hr];simp only [decide_eq_false_iff_not];omega
   clear hr
   go_enter Tryz.func65,Tryz.ntmps65
   go_wp2_with (go_at_call 98;first | (refine (in_yes _ _ _ _ (by omega) (by omega)).mono ?_;rintro e w' ⟨rfl,rfl⟩) | (refine (in_no _ _ _ _ (by omega)).mono ?_;rintro e w' ⟨rfl,rfl⟩))
   go_ret
   exact ⟨rfl,HB.out⟩
 ·obtain rfl:r=false:=by rw [← hr];simp only [decide_eq_false_iff_not];omega
  clear hr
  go_enter Tryz.func65,Tryz.ntmps65
  go_wp2_with (go_at_call 98;first | (refine (in_yes _ _ _ _ (by omega) (by omega)).mono ?_;rintro e w' ⟨rfl,rfl⟩) | (refine (in_no _ _ _ _ (by omega)).mono ?_;rintro e w' ⟨rfl,rfl⟩))
  go_ret
  exact ⟨rfl,HB.out⟩
theorem goal_any (k:UInt8) (l:List UInt8) (w:World) (hm:l.length≤1000000000000) (hT:Tabs w) :
 Calls Tryz.prog 66 #[.int .u8 (k.toNat:Int),.string (str l)] w fun e w' => e=.returned (.tuple #[.string (str (goalD k l).1),.int .i64 (goalD k l).2])∧Below w.heap.size w w':=by
 have hC:=clean_any l w hm hT;have hG:=target_any l w hm hT;have e1:(k.toNat:Int)=49 ↔ k=49:=u8_lit k 49 (by decide)
 have e2:(k.toNat:Int)=50 ↔ k=50:=u8_lit k 50 (by decide)
 unfold goalD;obtain ⟨x,hx⟩:∃ x:Int,x=(k.toNat:Int):=⟨_,rfl⟩;rw [← hx] at e1 e2 ⊢
 by_cases h1:x=49
 ·rw [if_pos (e1.1 h1)]
  clear e1 e2 hx;subst h1
  go_enter Tryz.func66,Tryz.ntmps66
  go_wp2_with (go_at_call 64;refine hC.mono ?_;rintro e w1 ⟨rfl,hb⟩)
  go_ret2
  exact ⟨rfl,hb⟩
 ·rw [if_neg (fun h => h1 (e1.2 h))]
  by_cases h2:x=50
  ·rw [if_pos (e2.1 h2)]
   clear e1 e2 hx;subst h2
   go_enter Tryz.func66,Tryz.ntmps66
   go_wp2_with (go_at_call 99;refine hG.mono ?_;rintro e w1 ⟨rfl,hb⟩)
   go_ret2
   exact ⟨rfl,hb⟩
  ·rw [if_neg (fun h => h2 (e2.2 h))]
   clear e1 e2 hx
   go_enter Tryz.func66,Tryz.ntmps66
   go_wp2
   go_ret2
   exact ⟨rfl,Below.refl _ _⟩
end Go.Proofs.YtnpkcneojilmkaaGreatDoor.Mem
end
section
namespace Go.Proofs.YtnpkcneojilmkaaGreatDoor.Mem
open Go.ChangeShapes Go.WideShapes Go.ChangeAt Go.RowKit Base Byt Txt Bk Hp Head Num Path Go.Lib
set_option linter.unusedVariables false
set_option maxRecDepth 100000
theorem load_mem (w:World) (g:Nat) (a b:ByteArray) (k m u i t:Int) (p:Option Addr) (n c:Nat) (h:Blk w g 26 #[.string a,.string b,.int .u8 k,.int .i64 m,.int .i64 u,.int .i64 i,.int .i64 t,.slice p n c]) :
 (loadVar 26 ⟨g,0,none⟩).run Tryz.prog w=.ok (.agg #[.string a,.string b,.int .u8 k,.int .i64 m,.int .i64 u,.int .i64 i,.int .i64 t,.slice p n c]) w:=by
 have c0:=h.cell 0;have c1:=h.cell 1;have c2:=h.cell 2;have c3:=h.cell 3;have c4:=h.cell 4;have c5:=h.cell 5;have c6:=h.cell 6;have c7:=h.cell 7;clear h
 go_simp
theorem ret_memB {fn:Func} (hf:fn.results=#[.cell 2 26,.tmp 3]) (tmps:Array Value) (w:World) (g:Nat) (v:Value) (ht:tmps.getD 2 undef=.pointer (some ⟨g,0,none⟩)) (hv:tmps.getD 3 undef=v)
 (m:MemV) (p:Option Addr) (c:Nat) (hb:Blk w g 26 (memC m p c)):(results fn tmps).run Tryz.prog w=.ok (.tuple #[.agg (memC m p c),v]) w:=by
 rw [results_cell_tmp hf,ht,hv];have hl:=load_mem w g _ _ _ _ _ _ _ _ _ _ hb;simp only [asAddr,Sem.run_pure,hl,Result.andThen];rfl
theorem blk8 {w:World} {g:Nat} {m:MemV} {p:Option Addr} {c:Nat} (hb:Blk w g 26 (memC m p c)) (a0 a1 a2 a3 a4 a5 a6 a7:Value) :
 Blk ((((((((w.setCell ⟨g,0,none⟩ a0).setCell ⟨g,1,none⟩ a1).setCell ⟨g,2,none⟩ a2).setCell ⟨g,3,none⟩ a3).setCell ⟨g,4,none⟩ a4).setCell ⟨g,5,none⟩ a5).setCell ⟨g,6,none⟩ a6).setCell ⟨g,7,none⟩ a7) g 26 #[a0,a1,a2,a3,a4,a5,a6,a7]:=
 (((((((hb.set 0 a0 (by show 0 < 8;decide)).set 1 a1 (by show 1 < 8;decide)).set 2 a2 (by show 2 < 8;decide)).set 3 a3 (by show 3 < 8;decide)).set 4 a4 (by show 4 < 8;decide)).set 5 a5 (by show 5 < 8;decide)).set 6 a6 (by show 6 < 8;decide)).set 7 a7 (by show 7 < 8;decide)
theorem below8 {w w':World} {g:Nat} (hk:Below w.heap.size w w') (hg:w.heap.size≤g) (a0 a1 a2 a3 a4 a5 a6 a7:Value) :
 Below w.heap.size w ((((((((w'.setCell ⟨g,0,none⟩ a0).setCell ⟨g,1,none⟩ a1).setCell ⟨g,2,none⟩ a2).setCell ⟨g,3,none⟩ a3).setCell ⟨g,4,none⟩ a4).setCell ⟨g,5,none⟩ a5).setCell ⟨g,6,none⟩ a6).setCell ⟨g,7,none⟩ a7):=
 ((((((((hk.setCell (p:=⟨g,0,none⟩) hg a0).setCell (p:=⟨g,1,none⟩) hg a1).setCell (p:=⟨g,2,none⟩) hg a2).setCell (p:=⟨g,3,none⟩) hg a3).setCell (p:=⟨g,4,none⟩) hg a4).setCell (p:=⟨g,5,none⟩) hg a5).setCell (p:=⟨g,6,none⟩) hg a6).setCell (p:=⟨g,7,none⟩) hg a7)
def FMid (w wi:World) (h:HeadV):Prop:=Below w.heap.size w wi∧Blk wi w.heap.size 41 (headC h)∧Blk wi (w.heap.size+1) 26 (memC noM none 0)
theorem FMid.below {w wi wj:World} {h:HeadV} (hm:FMid w wi h) (hb:Below wi.heap.size wi wj):FMid w wj h:=
 ⟨hm.1.trans (hb.mono hm.1.size),hm.2.1.below hb hm.2.1.lt,hm.2.2.below hb hm.2.2.lt⟩
set_option maxHeartbeats 4000000 in
theorem fromHead_any (h:HeadV) (w:World) (h1:h.name.length≤1000000000000) (h2:h.link.length≤1000000000000) (hT:Tabs w) :
 Calls Tryz.prog 46 #[.agg (headC h)] w fun e w' => e=.returned (.tuple #[.agg (memC (fromD h).1 none 0),.int .i64 (fromD h).2])∧Below w.heap.size w w':=by
 obtain ⟨⟨cp,ce⟩,hc⟩:∃ x,cleanD 9 6 h.name=x:=⟨_,rfl⟩;obtain ⟨⟨gp,ge⟩,hg⟩:∃ x,goalD h.kind h.link=x:=⟨_,rfl⟩;obtain ⟨mo,hmo⟩:∃ x,metaOk h.mode h.uid h.gid h.time=x:=⟨_,rfl⟩;obtain ⟨sz,hsz⟩:∃ x,sizeD h.kind h.size=x:=⟨_,rfl⟩
 have CC:Hid (∀ wi,Below w.heap.size w wi → Calls Tryz.prog 64 #[.string (str h.name)] wi fun e w' => e=.returned (.tuple #[.string (str cp),.int .i64 ce])∧Below wi.heap.size wi w'):=
  Lib.hid (fun wi hb => by have:=clean_any h.name wi h1 (hT.below hb);rwa [hc] at this)
 have CM:Hid (∀ wi,Calls Tryz.prog 65 #[.agg #[.int .i64 h.mode,.int .i64 h.uid,.int .i64 h.gid,.int .i64 h.time]] wi fun e w' => e=.returned (.bool mo)∧Below wi.heap.size wi w'):=
  Lib.hid (fun wi => by have:=inBounds_any h.mode h.uid h.gid h.time wi;rwa [hmo] at this)
 have CG:Hid (∀ wi,Below w.heap.size w wi → Calls Tryz.prog 66 #[.int .u8 (h.kind.toNat:Int),.string (str h.link)] wi fun e w' => e=.returned (.tuple #[.string (str gp),.int .i64 ge])∧Below wi.heap.size wi w'):=
  Lib.hid (fun wi hb => by have:=goal_any h.kind h.link wi h2 (hT.below hb);rwa [hg] at this)
 have CS:Hid (∀ wi,Calls Tryz.prog 67 #[.int .u8 (h.kind.toNat:Int),.int .i64 h.size] wi fun e w' => e=.returned (.int .i64 sz)∧wi=w'):=
  Lib.hid (fun wi => by have:=size_any h.kind h.size wi;rwa [hsz] at this)
 obtain ⟨U,hU⟩:∃ U,fromD h=U:=⟨_,rfl⟩;rw [hU]
 have HE:Hid (U=if ce≠0 then (noM,ce) else if mo=false then (noM,4) else if ge≠0 then (noM,ge) else if sz≠0 then (noM,sz) else (⟨cp,gp,h.kind,h.mode,h.uid,h.gid,h.time,[]⟩,0)):=
  Lib.hid (by rw [← hU];unfold fromD;rw [hc,hg,hmo,hsz])
 clear h1 h2 hT hU hc hg hmo hsz
 have HM0:Hid (FMid w ((w.alloc (.cells (headC h) 41)).alloc (.cells (memC noM none 0) 26)) h):=by
  have b1:=Blk.new (w.alloc (.cells (headC h) 41)) 26 (memC noM none 0);rw [World.size_alloc] at b1;exact Lib.hid ⟨((Below.refl _ w).alloc (Nat.le_refl _) _).alloc (by simp) _,(Blk.new w 41 (headC h)).alloc _,b1⟩
 obtain ⟨kn,hkn⟩:∃ kn:Int,(h.kind.toNat:Int)=kn:=⟨_,rfl⟩;have HKN:=Lib.hid hkn;simp only [headC,hkn] at HM0 ⊢;rw [hkn] at CG CS;clear hkn
 by_cases a1:ce=0
 ·subst a1
  cases mo with
  | false =>
    have E:Hid (U=(noM,4)):=Lib.hid (by rw [HE.out];simp)
    go_enter Tryz.func46,Tryz.ntmps46
    go_wp2_with fail
    refine (CC.out _ HM0.out.1).mono ?_
    rintro e w1 ⟨rfl,hb⟩;have HM1:=Lib.hid (HM0.out.below hb);clear hb HM0;have b1:=HM1.out.2.1;have x3:=b1.cell 3;have x4:=b1.cell 4;have x5:=b1.cell 5;have x6:=b1.cell 6;simp only [headC,List.getElem?_toArray,List.getElem?_cons_zero,List.getElem?_cons_succ] at x3 x4 x5 x6;clear b1
    go_wp2_with fail
    refine (CM.out _).mono ?_
    rintro e w2 ⟨rfl,hb⟩;have HM2:=Lib.hid (HM1.out.below hb);clear hb HM1 x3 x4 x5 x6;have b2:=HM2.out.2.2;have r0:=b2.cell 0;have f0:=b2.frozen 0;have r1:=b2.cell 1;have f1:=b2.frozen 1;have r2:=b2.cell 2;have f2:=b2.frozen 2;have r3:=b2.cell 3;have f3:=b2.frozen 3;have r4:=b2.cell 4;have f4:=b2.frozen 4;have r5:=b2.cell 5;have f5:=b2.frozen 5;have r6:=b2.cell 6;have f6:=b2.frozen 6;have r7:=b2.cell 7;have f7:=b2.frozen 7;simp only [memC,noM,List.getElem?_toArray,List.getElem?_cons_zero,List.getElem?_cons_succ] at r0 r1 r2 r3 r4 r5 r6 r7;clear b2
    go_wp2
    refine bodyPost_ret (ret_memB rfl _ _ (w.heap.size+1) _ rfl rfl noM none 0 (blk8 HM2.out.2.2 _ _ _ _ _ _ _ _)) rfl ?_
    exact ⟨by rw [E.out];rfl,below8 HM2.out.1 (by omega) _ _ _ _ _ _ _ _⟩
  | true =>
    by_cases a2:ge=0
    ·subst a2
     by_cases a3:sz=0
     ·subst a3
      have E:Hid (U=(⟨cp,gp,h.kind,h.mode,h.uid,h.gid,h.time,[]⟩,0)):=Lib.hid (by rw [HE.out];simp)
      go_enter Tryz.func46,Tryz.ntmps46
      go_wp2_with fail
      refine (CC.out _ HM0.out.1).mono ?_
      rintro e w1 ⟨rfl,hb⟩;have HM1:=Lib.hid (HM0.out.below hb);clear hb HM0;have b1:=HM1.out.2.1;have x3:=b1.cell 3;have x4:=b1.cell 4;have x5:=b1.cell 5;have x6:=b1.cell 6;simp only [headC,List.getElem?_toArray,List.getElem?_cons_zero,List.getElem?_cons_succ] at x3 x4 x5 x6;clear b1
      go_wp2_with fail
      refine (CM.out _).mono ?_
      rintro e w2 ⟨rfl,hb⟩;have HM2:=Lib.hid (HM1.out.below hb);clear hb HM1 x3 x4 x5 x6;have b1:=HM2.out.2.1;have x1:=b1.cell 1;have x2:=b1.cell 2;simp only [headC,List.getElem?_toArray,List.getElem?_cons_zero,List.getElem?_cons_succ,HKN.out] at x1 x2;clear b1
      go_wp2_with fail
      refine (CG.out _ HM2.out.1).mono ?_
      rintro e w3 ⟨rfl,hb⟩;have HM3:=Lib.hid (HM2.out.below hb);clear hb HM2 x1 x2;have b1:=HM3.out.2.1;have x2:=b1.cell 2;have x7:=b1.cell 7;simp only [headC,List.getElem?_toArray,List.getElem?_cons_zero,List.getElem?_cons_succ,HKN.out] at x2 x7;clear b1
      go_wp2_with fail
      refine (CS.out _).mono ?_
      rintro e w4 ⟨rfl,rfl⟩;clear x2 x7;have b1:=HM3.out.2.1;have x2:=b1.cell 2;have x3:=b1.cell 3;have x4:=b1.cell 4;have x5:=b1.cell 5;have x6:=b1.cell 6;simp only [headC,List.getElem?_toArray,List.getElem?_cons_zero,List.getElem?_cons_succ,HKN.out] at x2 x3 x4 x5 x6;clear b1;have hkk:=HKN.out;subst hkk;have b2:=HM3.out.2.2;have r0:=b2.cell 0;have f0:=b2.frozen 0;have r1:=b2.cell 1;have f1:=b2.frozen 1;have r2:=b2.cell 2;have f2:=b2.frozen 2;have r3:=b2.cell 3;have f3:=b2.frozen 3;have r4:=b2.cell 4;have f4:=b2.frozen 4;have r5:=b2.cell 5;have f5:=b2.frozen 5
      have r6:=b2.cell 6;have f6:=b2.frozen 6;have r7:=b2.cell 7;have f7:=b2.frozen 7;simp only [memC,noM,List.getElem?_toArray,List.getElem?_cons_zero,List.getElem?_cons_succ] at r0 r1 r2 r3 r4 r5 r6 r7;clear b2
      go_wp2
      refine bodyPost_ret (ret_memB rfl _ _ (w.heap.size+1) _ rfl rfl ⟨cp,gp,h.kind,h.mode,h.uid,h.gid,h.time,[]⟩ none 0 (blk8 HM3.out.2.2 _ _ _ _ _ _ _ _)) rfl ?_
      exact ⟨by rw [E.out];rfl,below8 HM3.out.1 (by omega) _ _ _ _ _ _ _ _⟩
     ·have E:Hid (U=(noM,sz)):=Lib.hid (by rw [HE.out];simp [a3])
      go_enter Tryz.func46,Tryz.ntmps46
      go_wp2_with fail
      refine (CC.out _ HM0.out.1).mono ?_
      rintro e w1 ⟨rfl,hb⟩;have HM1:=Lib.hid (HM0.out.below hb);clear hb HM0;have b1:=HM1.out.2.1;have x3:=b1.cell 3;have x4:=b1.cell 4;have x5:=b1.cell 5;have x6:=b1.cell 6;simp only [headC,List.getElem?_toArray,List.getElem?_cons_zero,List.getElem?_cons_succ] at x3 x4 x5 x6;clear b1
      go_wp2_with fail
      refine (CM.out _).mono ?_
      rintro e w2 ⟨rfl,hb⟩;have HM2:=Lib.hid (HM1.out.below hb);clear hb HM1 x3 x4 x5 x6;have b1:=HM2.out.2.1;have x1:=b1.cell 1;have x2:=b1.cell 2;simp only [headC,List.getElem?_toArray,List.getElem?_cons_zero,List.getElem?_cons_succ,HKN.out] at x1 x2;clear b1
      go_wp2_with fail
      refine (CG.out _ HM2.out.1).mono ?_
      rintro e w3 ⟨rfl,hb⟩;have HM3:=Lib.hid (HM2.out.below hb);clear hb HM2 x1 x2;have b1:=HM3.out.2.1;have x2:=b1.cell 2;have x7:=b1.cell 7;simp only [headC,List.getElem?_toArray,List.getElem?_cons_zero,List.getElem?_cons_succ,HKN.out] at x2 x7;clear b1
      go_wp2_with fail
      refine (CS.out _).mono ?_
      rintro e w4 ⟨rfl,rfl⟩;clear x2 x7;have b2:=HM3.out.2.2;have r0:=b2.cell 0;have f0:=b2.frozen 0;have r1:=b2.cell 1;have f1:=b2.frozen 1;have r2:=b2.cell 2;have f2:=b2.frozen 2;have r3:=b2.cell 3;have f3:=b2.frozen 3;have r4:=b2.cell 4;have f4:=b2.frozen 4;have r5:=b2.cell 5;have f5:=b2.frozen 5;have r6:=b2.cell 6;have f6:=b2.frozen 6;have r7:=b2.cell 7;have f7:=b2.frozen 7;simp only [memC,noM,List.getElem?_toArray,List.getElem?_cons_zero,List.getElem?_cons_succ] at r0 r1 r2 r3 r4 r5 r6 r7;clear b2
      go_wp2
      refine bodyPost_ret (ret_memB rfl _ _ (w.heap.size+1) _ rfl rfl noM none 0 (blk8 HM3.out.2.2 _ _ _ _ _ _ _ _)) rfl ?_
      exact ⟨by rw [E.out];rfl,below8 HM3.out.1 (by omega) _ _ _ _ _ _ _ _⟩
    ·have E:Hid (U=(noM,ge)):=Lib.hid (by rw [HE.out];simp [a2])
     go_enter Tryz.func46,Tryz.ntmps46
     go_wp2_with fail
     refine (CC.out _ HM0.out.1).mono ?_
     rintro e w1 ⟨rfl,hb⟩;have HM1:=Lib.hid (HM0.out.below hb);clear hb HM0;have b1:=HM1.out.2.1;have x3:=b1.cell 3;have x4:=b1.cell 4;have x5:=b1.cell 5;have x6:=b1.cell 6;simp only [headC,List.getElem?_toArray,List.getElem?_cons_zero,List.getElem?_cons_succ] at x3 x4 x5 x6;clear b1
     go_wp2_with fail
     refine (CM.out _).mono ?_
     rintro e w2 ⟨rfl,hb⟩;have HM2:=Lib.hid (HM1.out.below hb);clear hb HM1 x3 x4 x5 x6;have b1:=HM2.out.2.1;have x1:=b1.cell 1;have x2:=b1.cell 2;simp only [headC,List.getElem?_toArray,List.getElem?_cons_zero,List.getElem?_cons_succ,HKN.out] at x1 x2;clear b1
     go_wp2_with fail
     refine (CG.out _ HM2.out.1).mono ?_
     rintro e w3 ⟨rfl,hb⟩;have HM3:=Lib.hid (HM2.out.below hb);clear hb HM2 x1 x2;have b2:=HM3.out.2.2;have r0:=b2.cell 0;have f0:=b2.frozen 0;have r1:=b2.cell 1;have f1:=b2.frozen 1;have r2:=b2.cell 2;have f2:=b2.frozen 2;have r3:=b2.cell 3;have f3:=b2.frozen 3;have r4:=b2.cell 4;have f4:=b2.frozen 4;have r5:=b2.cell 5;have f5:=b2.frozen 5;have r6:=b2.cell 6;have f6:=b2.frozen 6;have r7:=b2.cell 7;have f7:=b2.frozen 7;simp only [memC,noM,List.getElem?_toArray,List.getElem?_cons_zero,List.getElem?_cons_succ] at r0 r1 r2 r3 r4 r5 r6 r7;clear b2
     go_wp2
     refine bodyPost_ret (ret_memB rfl _ _ (w.heap.size+1) _ rfl rfl noM none 0 (blk8 HM3.out.2.2 _ _ _ _ _ _ _ _)) rfl ?_
     exact ⟨by rw [E.out];rfl,below8 HM3.out.1 (by omega) _ _ _ _ _ _ _ _⟩
 ·have E:Hid (U=(noM,ce)):=Lib.hid (by rw [HE.out];simp [a1])
  go_enter Tryz.func46,Tryz.ntmps46
  go_wp2_with fail
  refine (CC.out _ HM0.out.1).mono ?_
  rintro e w1 ⟨rfl,hb⟩;have HM1:=Lib.hid (HM0.out.below hb);clear hb HM0;have b2:=HM1.out.2.2;have r0:=b2.cell 0;have f0:=b2.frozen 0;have r1:=b2.cell 1;have f1:=b2.frozen 1;have r2:=b2.cell 2;have f2:=b2.frozen 2;have r3:=b2.cell 3;have f3:=b2.frozen 3;have r4:=b2.cell 4;have f4:=b2.frozen 4;have r5:=b2.cell 5;have f5:=b2.frozen 5;have r6:=b2.cell 6;have f6:=b2.frozen 6;have r7:=b2.cell 7;have f7:=b2.frozen 7;simp only [memC,noM,List.getElem?_toArray,List.getElem?_cons_zero,List.getElem?_cons_succ] at r0 r1 r2 r3 r4 r5 r6 r7;clear b2
  go_wp2
  refine bodyPost_ret (ret_memB rfl _ _ (w.heap.size+1) _ rfl rfl noM none 0 (blk8 HM1.out.2.2 _ _ _ _ _ _ _ _)) rfl ?_
  exact ⟨by rw [E.out];rfl,below8 HM1.out.1 (by omega) _ _ _ _ _ _ _ _⟩
theorem fromD_body (h:HeadV):(fromD h).1.body=[]:=by
 unfold fromD
 split
 ·rfl
 ·split
  ·rfl
  ·split
   ·rfl
   ·split<;>rfl
end Go.Proofs.YtnpkcneojilmkaaGreatDoor.Mem
end
section
namespace Go.Proofs.YtnpkcneojilmkaaGreatDoor.Mem
open Go.ChangeShapes Go.WideShapes Go.ChangeAt Go.RowKit Base Byt Txt Bk Hp Head Num Path Go.Lib
set_option linter.unusedVariables false
set_option maxRecDepth 100000
theorem rmeta_any (a b c d:Int) (w:World) :
 Calls Tryz.prog 36 #[.agg #[.int .i64 a,.int .i64 b,.int .i64 c,.int .i64 d]] w fun e w' => e=.returned (.bool (metaOk a b c d))∧Below w.heap.size w w':=by
 obtain ⟨r,hr⟩:∃ r,metaOk a b c d=r:=⟨_,rfl⟩;rw [hr];unfold metaOk at hr;have HB:=Lib.hid ((Below.refl w.heap.size w).alloc (Nat.le_refl _) (.cells #[.int .i64 a,.int .i64 b,.int .i64 c,.int .i64 d] 23))
 by_cases h0:0≤a
 ·by_cases h1:a≤4095
  ·by_cases h2:0≤b
   ·by_cases h3:b < 2147483648
    ·by_cases h4:0≤c
     ·by_cases h5:c < 2147483648
      ·by_cases h6:0≤d
       ·by_cases h7:d≤1099511627776
        ·obtain rfl:r=true:=by rw [← hr];simp only [decide_eq_true_eq];omega
         clear hr
         go_enter Tryz.func36,Tryz.ntmps36
         go_wp2
         go_ret
         exact ⟨rfl,HB.out⟩
        ·obtain rfl:r=false:=by rw [← hr];simp only [decide_eq_false_iff_not];omega
         have hd:decide (d≤1099511627776)=false:=by simpa using h7
         clear hr
         go_enter Tryz.func36,Tryz.ntmps36
         go_wp2
         go_ret
         exact ⟨rfl,HB.out⟩
       ·obtain rfl:r=false:=by rw [← hr];simp only [decide_eq_false_iff_not];omega
        have hd:decide (0≤d)=false:=by simpa using h6
        clear hr
        go_enter Tryz.func36,Tryz.ntmps36
        go_wp2
        go_ret
        exact ⟨rfl,HB.out⟩
      ·obtain rfl:r=false:=by rw [← hr];simp only [decide_eq_false_iff_not];omega
       have hd:decide (c < 2147483648)=false:=by simpa using h5
       clear hr
       go_enter Tryz.func36,Tryz.ntmps36
       go_wp2
       go_ret
       exact ⟨rfl,HB.out⟩
     ·obtain rfl:r=false:=by rw [← hr];simp only [decide_eq_false_iff_not];omega
      have hd:decide (0≤c)=false:=by simpa using h4
      clear hr
      go_enter Tryz.func36,Tryz.ntmps36
      go_wp2
      go_ret
      exact ⟨rfl,HB.out⟩
    ·obtain rfl:r=false:=by rw [← hr];simp only [decide_eq_false_iff_not];omega
     have hd:decide (b < 2147483648)=false:=by simpa using h3
     clear hr
     go_enter Tryz.func36,Tryz.ntmps36
     go_wp2
     go_ret
     exact ⟨rfl,HB.out⟩
   ·obtain rfl:r=false:=by rw [← hr];simp only [decide_eq_false_iff_not];omega
    have hd:decide (0≤b)=false:=by simpa using h2
    clear hr
    go_enter Tryz.func36,Tryz.ntmps36
    go_wp2
    go_ret
    exact ⟨rfl,HB.out⟩
  ·obtain rfl:r=false:=by rw [← hr];simp only [decide_eq_false_iff_not];omega
   have hd:decide (a≤4095)=false:=by simpa using h1
   clear hr
   go_enter Tryz.func36,Tryz.ntmps36
   go_wp2
   go_ret
   exact ⟨rfl,HB.out⟩
 ·obtain rfl:r=false:=by rw [← hr];simp only [decide_eq_false_iff_not];omega
  have hd:decide (0≤a)=false:=by simpa using h0
  clear hr
  go_enter Tryz.func36,Tryz.ntmps36
  go_wp2
  go_ret
  exact ⟨rfl,HB.out⟩
theorem rtarget_any (l:List UInt8) (w:World) (hm:l.length≤140737488351232) :
 Calls Tryz.prog 37 #[.string (str l)] w fun e w' => e=.returned (.int .i64 (targetD 9 6 l))∧w=w':=by
 have hT:=rtext_any (str l) w (by rw [str_size];omega)
 rw [str_data] at hT;have hs:(str l).size=l.length:=str_size l;obtain ⟨r,hr⟩:∃ r,targetD 9 6 l=r:=⟨_,rfl⟩;rw [hr];unfold targetD at hr
 cases hx:textD l with
 | false =>
   rw [hx] at hr hT;simp only [if_true] at hr;subst hr
   go_enter Tryz.func37,Tryz.ntmps37
   go_wp2_with fail
   refine hT.mono ?_
   rintro e w1 ⟨rfl,rfl⟩
   go_wp2
   go_ret
   exact ⟨rfl,rfl⟩
 | true =>
   rw [hx] at hr hT
   by_cases h0:l=[]
   ·subst h0
    simp at hr;subst hr
    go_enter Tryz.func37,Tryz.ntmps37
    go_wp2_with fail
    refine hT.mono ?_
    rintro e w1 ⟨rfl,rfl⟩;have e0:(str []).toList.isEmpty=true:=by rw [str_empty];rfl
    go_wp2
    go_ret
    exact ⟨rfl,rfl⟩
   ·have e0:(str l).toList.isEmpty=false:=by rw [str_empty];simpa using h0
    by_cases h1:200 < l.length
    ·have h2:(200:Int) < (l.length:Int):=by omega
     simp [h0,h1] at hr;subst hr
     go_enter Tryz.func37,Tryz.ntmps37
     go_wp2_with fail
     refine hT.mono ?_
     rintro e w1 ⟨rfl,rfl⟩
     go_wp2
     go_ret
     exact ⟨rfl,rfl⟩
    ·have h2:¬ (200:Int) < (l.length:Int):=by omega
     simp [h0,h1] at hr;subst hr
     go_enter Tryz.func37,Tryz.ntmps37
     go_wp2_with fail
     refine hT.mono ?_
     rintro e w1 ⟨rfl,rfl⟩
     go_wp2
     go_ret
     exact ⟨rfl,rfl⟩
theorem rcl_any (l:List UInt8) (w:World) (hm:l.length≤140737488351232) :
 Calls Tryz.prog 35 #[.string (str l)] w fun e w' => e=.returned (.bool (cleanOk l))∧w=w':=by
 have hC:=rclean_any (str l) w (by rw [str_size];omega)
 rw [str_data] at hC;obtain ⟨r,hr⟩:∃ r,cleanOk l=r:=⟨_,rfl⟩;rw [hr];unfold cleanOk at hr;obtain ⟨⟨cp,ce⟩,hc⟩:∃ x,cleanD 9 6 l=x:=⟨_,rfl⟩;rw [hc] at hC hr;clear hc;simp only [Prod.mk.injEq] at hr
 by_cases h0:ce=0
 ·by_cases h1:l=cp
  ·have e1:((str l).toList == (str cp).toList)=true:=by rw [str_toList,str_toList];simpa using h1
   have hr':r=true:=by rw [← hr];simp [h0,h1]
   subst h0 hr';clear hr h1
   go_enter Tryz.func35,Tryz.ntmps35
   go_wp2_with fail
   refine hC.mono ?_
   rintro e w1 ⟨rfl,rfl⟩
   go_wp2
   go_ret
   exact ⟨rfl,rfl⟩
  ·have e1:((str l).toList == (str cp).toList)=false:=by rw [str_toList,str_toList];simpa using h1
   have hr':r=false:=by rw [← hr];simp;exact fun h => absurd h.symm h1
   subst h0 hr';clear hr h1
   go_enter Tryz.func35,Tryz.ntmps35
   go_wp2_with fail
   refine hC.mono ?_
   rintro e w1 ⟨rfl,rfl⟩
   go_wp2
   go_ret
   exact ⟨rfl,rfl⟩
 ·have e1:(ce == 0)=false:=by simpa using h0
  have hr':r=false:=by rw [← hr];simp [h0]
  subst hr';clear hr
  go_enter Tryz.func35,Tryz.ntmps35
  go_wp2_with fail
  refine hC.mono ?_
  rintro e w1 ⟨rfl,rfl⟩
  go_wp2
  go_ret
  exact ⟨rfl,rfl⟩
end Go.Proofs.YtnpkcneojilmkaaGreatDoor.Mem
end
section
namespace Go.Proofs.YtnpkcneojilmkaaGreatDoor.Mem
open Go.ChangeShapes Go.WideShapes Go.ChangeAt Go.RowKit Base Byt Txt Bk Hp Head Num Path Go.Lib
set_option linter.unusedVariables false
set_option maxRecDepth 100000
set_option maxHeartbeats 4000000 in
theorem rgood_any (m:MemV) (p:Option Addr) (c:Nat) (w:World) (h1:m.path.length≤140737488351232) (h2:m.target.length≤140737488351232) :
 Calls Tryz.prog 19 #[.agg (memC m p c)] w fun e w' => e=.returned (.bool (goodD m))∧Below w.heap.size w w':=by
 have hu:=fun k hk => u8_lit m.kind k hk
 obtain ⟨kn,hkn⟩:∃ kn:Int,(m.kind.toNat:Int)=kn:=⟨_,rfl⟩;unfold memC;rw [hkn] at hu ⊢;have C1:=fun w => rcl_any m.path w h1
 have C2:=fun w => rcl_any m.target w h2
 have C3:=fun w => rtarget_any m.target w h2
 have C4:=fun w => rmeta_any m.mode m.uid m.gid m.time w
 obtain ⟨r,hr⟩:∃ r,goodD m=r:=⟨_,rfl⟩;rw [hr];unfold goodD at hr;obtain ⟨b1,hb1⟩:∃ b,cleanOk m.path=b:=⟨_,rfl⟩;obtain ⟨b2,hb2⟩:∃ b,cleanOk m.target=b:=⟨_,rfl⟩;obtain ⟨b3,hb3⟩:∃ b,targetD 9 6 m.target=b:=⟨_,rfl⟩;obtain ⟨b4,hb4⟩:∃ b,metaOk m.mode m.uid m.gid m.time=b:=⟨_,rfl⟩;simp only [hb1,hb2,hb3,hb4] at hr C1 C2 C3 C4;clear hb1 hb2 hb3 hb4 h1 h2;have hkk:m.kind=48 ↔ kn=48:=(hu 48 (by decide)).symm
 have hk1:m.kind=49 ↔ kn=49:=(hu 49 (by decide)).symm
 have hk2:m.kind=50 ↔ kn=50:=(hu 50 (by decide)).symm
 have hk3:m.kind=53 ↔ kn=53:=(hu 53 (by decide)).symm
 obtain ⟨bl,hbl⟩:∃ bl,m.body.length=bl:=⟨_,rfl⟩;have hte:(str m.target).toList.isEmpty=decide (m.target=[]):=str_empty m.target
 have hr2:(b1 && b4 && decide (bl≤1048576) && (decide (kn=48) || decide (bl=0)) && (if kn=48 ∨ kn=53 then decide (m.target=[]) else if kn=49 then b2 else if kn=50 then (b3 == 0) else false))=r:=by
  rw [← hr];have e1:(m.kind == 48)=decide (kn=48):=by rw [Bool.eq_iff_iff];simp [hkk]
  have e2:(m.body == [])=decide (bl=0):=by rw [Bool.eq_iff_iff,← hbl];simp
  have e3:(m.target == [])=decide (m.target=[]):=by rw [Bool.eq_iff_iff];simp
  have e4:(b3 == 0)=decide (b3=0):=by rw [Bool.eq_iff_iff];simp
  rw [e1,e2,e3,e4,hbl];simp only [hkk,hk1,hk2,hk3]
 rw [hbl];clear hr hkk hk1 hk2 hk3 hbl hu;have HB0:=Lib.hid ((Below.refl w.heap.size w).alloc (Nat.le_refl _) (.cells #[.string (str m.path),.string (str m.target),.int .u8 kn,.int .i64 m.mode,.int .i64 m.uid,.int .i64 m.gid,.int .i64 m.time,.slice p bl c] 26));have HX0:=Lib.hid (Blk.new w 26 #[.string (str m.path),.string (str m.target),.int .u8 kn,.int .i64 m.mode,.int .i64 m.uid,.int .i64 m.gid,.int .i64 m.time,.slice p bl c]);have HR:=Lib.hid hr2;clear hr2 hkn
 cases b1 with
 | false =>
   have hrv:r=false:=by rw [← HR.out];simp
   subst hrv
   go_enter Tryz.func19,Tryz.ntmps19
   go_wp2_with fail
   refine (C1 _).mono ?_
   rintro e w1 ⟨rfl,rfl⟩
   go_wp2
   go_ret
   exact ⟨rfl,HB0.out⟩
 | true =>
   cases b4 with
   | false =>
     have hrv:r=false:=by rw [← HR.out];simp
     subst hrv
     go_enter Tryz.func19,Tryz.ntmps19
     go_wp2_with fail
     refine (C1 _).mono ?_
     rintro e w1 ⟨rfl,rfl⟩;have b9:=HX0.out;have y3:=b9.cell 3;have y4:=b9.cell 4;have y5:=b9.cell 5;have y6:=b9.cell 6;simp only [List.getElem?_toArray,List.getElem?_cons_zero,List.getElem?_cons_succ] at y3 y4 y5 y6;clear b9
     go_wp2_with fail
     refine (C4 _).mono ?_
     rintro e w2 ⟨rfl,hb⟩;have HB2:=Lib.hid (HB0.out.trans (hb.mono HB0.out.size));have HX2:=Lib.hid (HX0.out.below hb HX0.out.lt);clear hb y3 y4 y5 y6;have b9:=HX2.out;have y1:=b9.cell 1;have y2:=b9.cell 2;have y7:=b9.cell 7;simp only [List.getElem?_toArray,List.getElem?_cons_zero,List.getElem?_cons_succ] at y1 y2 y7;clear b9
     go_wp2
     go_ret
     exact ⟨rfl,HB2.out⟩
   | true =>
     by_cases l1:1048576 < bl
     ·have l2:(1048576:Int) < (bl:Int):=by omega
      have hrv:r=false:=by rw [← HR.out];simp;omega
      subst hrv
      go_enter Tryz.func19,Tryz.ntmps19
      go_wp2_with fail
      refine (C1 _).mono ?_
      rintro e w1 ⟨rfl,rfl⟩;have b9:=HX0.out;have y3:=b9.cell 3;have y4:=b9.cell 4;have y5:=b9.cell 5;have y6:=b9.cell 6;simp only [List.getElem?_toArray,List.getElem?_cons_zero,List.getElem?_cons_succ] at y3 y4 y5 y6;clear b9
      go_wp2_with fail
      refine (C4 _).mono ?_
      rintro e w2 ⟨rfl,hb⟩;have HB2:=Lib.hid (HB0.out.trans (hb.mono HB0.out.size));have HX2:=Lib.hid (HX0.out.below hb HX0.out.lt);clear hb y3 y4 y5 y6;have b9:=HX2.out;have y1:=b9.cell 1;have y2:=b9.cell 2;have y7:=b9.cell 7;simp only [List.getElem?_toArray,List.getElem?_cons_zero,List.getElem?_cons_succ] at y1 y2 y7;clear b9
      go_wp2
      go_ret
      exact ⟨rfl,HB2.out⟩
     ·have l2:¬ (1048576:Int) < (bl:Int):=by omega
      have l3:bl≤1048576:=by omega
      by_cases k0:kn=48
      ·subst k0
       have hrv:r=decide (m.target=[]):=by rw [← HR.out];simp [l3]
       subst hrv
       go_enter Tryz.func19,Tryz.ntmps19
       go_wp2_with fail
       refine (C1 _).mono ?_
       rintro e w1 ⟨rfl,rfl⟩;have b9:=HX0.out;have y3:=b9.cell 3;have y4:=b9.cell 4;have y5:=b9.cell 5;have y6:=b9.cell 6;simp only [List.getElem?_toArray,List.getElem?_cons_zero,List.getElem?_cons_succ] at y3 y4 y5 y6;clear b9
       go_wp2_with fail
       refine (C4 _).mono ?_
       rintro e w2 ⟨rfl,hb⟩;have HB2:=Lib.hid (HB0.out.trans (hb.mono HB0.out.size));have HX2:=Lib.hid (HX0.out.below hb HX0.out.lt);clear hb y3 y4 y5 y6;have b9:=HX2.out;have y1:=b9.cell 1;have y2:=b9.cell 2;have y7:=b9.cell 7;simp only [List.getElem?_toArray,List.getElem?_cons_zero,List.getElem?_cons_succ] at y1 y2 y7;clear b9
       go_wp2
       go_ret
       exact ⟨rfl,HB2.out⟩
      ·have e0:(kn != 48)=true:=by simpa using k0
       have f0:(kn == 48)=false:=by simpa using k0
       by_cases l4:bl=0
       ·subst l4
        by_cases k3:kn=53
        ·subst k3
         have hrv:r=decide (m.target=[]):=by rw [← HR.out];simp
         subst hrv
         go_enter Tryz.func19,Tryz.ntmps19
         go_wp2_with fail
         refine (C1 _).mono ?_
         rintro e w1 ⟨rfl,rfl⟩;have b9:=HX0.out;have y3:=b9.cell 3;have y4:=b9.cell 4;have y5:=b9.cell 5;have y6:=b9.cell 6;simp only [List.getElem?_toArray,List.getElem?_cons_zero,List.getElem?_cons_succ] at y3 y4 y5 y6;clear b9
         go_wp2_with fail
         refine (C4 _).mono ?_
         rintro e w2 ⟨rfl,hb⟩;have HB2:=Lib.hid (HB0.out.trans (hb.mono HB0.out.size));have HX2:=Lib.hid (HX0.out.below hb HX0.out.lt);clear hb y3 y4 y5 y6;have b9:=HX2.out;have y1:=b9.cell 1;have y2:=b9.cell 2;have y7:=b9.cell 7;simp only [List.getElem?_toArray,List.getElem?_cons_zero,List.getElem?_cons_succ] at y1 y2 y7;clear b9
         go_wp2
         go_ret
         exact ⟨rfl,HB2.out⟩
        ·have f3:(kn == 53)=false:=by simpa using k3
         by_cases k1:kn=49
         ·subst k1
          have hrv:r=b2:=by rw [← HR.out];simp
          subst hrv
          go_enter Tryz.func19,Tryz.ntmps19
          go_wp2_with fail
          refine (C1 _).mono ?_
          rintro e w1 ⟨rfl,rfl⟩;have b9:=HX0.out;have y3:=b9.cell 3;have y4:=b9.cell 4;have y5:=b9.cell 5;have y6:=b9.cell 6;simp only [List.getElem?_toArray,List.getElem?_cons_zero,List.getElem?_cons_succ] at y3 y4 y5 y6;clear b9
          go_wp2_with fail
          refine (C4 _).mono ?_
          rintro e w2 ⟨rfl,hb⟩;have HB2:=Lib.hid (HB0.out.trans (hb.mono HB0.out.size));have HX2:=Lib.hid (HX0.out.below hb HX0.out.lt);clear hb y3 y4 y5 y6;have b9:=HX2.out;have y1:=b9.cell 1;have y2:=b9.cell 2;have y7:=b9.cell 7;simp only [List.getElem?_toArray,List.getElem?_cons_zero,List.getElem?_cons_succ] at y1 y2 y7;clear b9
          go_wp2_with fail
          refine (C2 _).mono ?_
          rintro e w3 ⟨rfl,rfl⟩
          go_wp2
          go_ret
          exact ⟨rfl,HB2.out⟩
         ·have f1:(kn == 49)=false:=by simpa using k1
          by_cases k2:kn=50
          ·subst k2
           have hrv:r=(b3 == 0):=by rw [← HR.out];simp
           subst hrv
           go_enter Tryz.func19,Tryz.ntmps19
           go_wp2_with fail
           refine (C1 _).mono ?_
           rintro e w1 ⟨rfl,rfl⟩;have b9:=HX0.out;have y3:=b9.cell 3;have y4:=b9.cell 4;have y5:=b9.cell 5;have y6:=b9.cell 6;simp only [List.getElem?_toArray,List.getElem?_cons_zero,List.getElem?_cons_succ] at y3 y4 y5 y6;clear b9
           go_wp2_with fail
           refine (C4 _).mono ?_
           rintro e w2 ⟨rfl,hb⟩;have HB2:=Lib.hid (HB0.out.trans (hb.mono HB0.out.size));have HX2:=Lib.hid (HX0.out.below hb HX0.out.lt);clear hb y3 y4 y5 y6;have b9:=HX2.out;have y1:=b9.cell 1;have y2:=b9.cell 2;have y7:=b9.cell 7;simp only [List.getElem?_toArray,List.getElem?_cons_zero,List.getElem?_cons_succ] at y1 y2 y7;clear b9
           go_wp2_with fail
           refine (C3 _).mono ?_
           rintro e w3 ⟨rfl,rfl⟩
           go_wp2
           go_ret
           exact ⟨rfl,HB2.out⟩
          ·have f2:(kn == 50)=false:=by simpa using k2
           have hrv:r=false:=by rw [← HR.out];simp [k0,k1,k2,k3]
           subst hrv
           go_enter Tryz.func19,Tryz.ntmps19
           go_wp2_with fail
           refine (C1 _).mono ?_
           rintro e w1 ⟨rfl,rfl⟩;have b9:=HX0.out;have y3:=b9.cell 3;have y4:=b9.cell 4;have y5:=b9.cell 5;have y6:=b9.cell 6;simp only [List.getElem?_toArray,List.getElem?_cons_zero,List.getElem?_cons_succ] at y3 y4 y5 y6;clear b9
           go_wp2_with fail
           refine (C4 _).mono ?_
           rintro e w2 ⟨rfl,hb⟩;have HB2:=Lib.hid (HB0.out.trans (hb.mono HB0.out.size));have HX2:=Lib.hid (HX0.out.below hb HX0.out.lt);clear hb y3 y4 y5 y6;have b9:=HX2.out;have y1:=b9.cell 1;have y2:=b9.cell 2;have y7:=b9.cell 7;simp only [List.getElem?_toArray,List.getElem?_cons_zero,List.getElem?_cons_succ] at y1 y2 y7;clear b9
           go_wp2
           go_ret
           exact ⟨rfl,HB2.out⟩
       ·have l5:(0:Int) < (bl:Int):=by omega
        have hrv:r=false:=by rw [← HR.out];simp [k0,l4]
        subst hrv
        go_enter Tryz.func19,Tryz.ntmps19
        go_wp2_with fail
        refine (C1 _).mono ?_
        rintro e w1 ⟨rfl,rfl⟩;have b9:=HX0.out;have y3:=b9.cell 3;have y4:=b9.cell 4;have y5:=b9.cell 5;have y6:=b9.cell 6;simp only [List.getElem?_toArray,List.getElem?_cons_zero,List.getElem?_cons_succ] at y3 y4 y5 y6;clear b9
        go_wp2_with fail
        refine (C4 _).mono ?_
        rintro e w2 ⟨rfl,hb⟩;have HB2:=Lib.hid (HB0.out.trans (hb.mono HB0.out.size));have HX2:=Lib.hid (HX0.out.below hb HX0.out.lt);clear hb y3 y4 y5 y6;have b9:=HX2.out;have y1:=b9.cell 1;have y2:=b9.cell 2;have y7:=b9.cell 7;simp only [List.getElem?_toArray,List.getElem?_cons_zero,List.getElem?_cons_succ] at y1 y2 y7;clear b9
        go_wp2
        go_ret
        exact ⟨rfl,HB2.out⟩
end Go.Proofs.YtnpkcneojilmkaaGreatDoor.Mem
end
section
namespace Go.Proofs.YtnpkcneojilmkaaGreatDoor.Mem
open Go.ChangeShapes Go.WideShapes Go.ChangeAt Go.RowKit Base Byt Txt Bk Hp Head Num Path Go.Lib
set_option linter.unusedVariables false
set_option maxRecDepth 100000
set_option maxHeartbeats 4000000 in
theorem memGood_any (m:MemV) (p:Option Addr) (c:Nat) (w:World) (h1:m.path.length≤1000000000000) (h2:m.target.length≤1000000000000) (hT:Tabs w) :
 Calls Tryz.prog 26 #[.agg (memC m p c)] w fun e w' => e=.returned (.bool (goodD m))∧Below w.heap.size w w':=by
 rw [goodD_is];obtain ⟨⟨fm,fe⟩,hfd⟩:∃ x,fromD (headOfM m)=x:=⟨_,rfl⟩;have hfb:fm.body=[]:=by have:=fromD_body (headOfM m);rw [hfd] at this;exact this
 have CF:∀ wi,Below w.heap.size w wi → Calls Tryz.prog 46 #[.agg #[.string (str m.path),.string (str m.target),.int .u8 (m.kind.toNat:Int),.int .i64 m.mode,.int .i64 m.uid,.int .i64 m.gid,.int .i64 m.time,.int .i64 (m.body.length:Int),.bool false]] wi fun e w' => e=.returned (.tuple #[.agg #[.string (str fm.path),.string (str fm.target),.int .u8 (fm.kind.toNat:Int),.int .i64 fm.mode,.int .i64 fm.uid,.int .i64 fm.gid,.int .i64 fm.time,.slice none 0 0],.int .i64 fe])∧Below wi.heap.size wi w':=fun wi hb => by
  have:=fromHead_any (headOfM m) wi h1 h2 (hT.below hb);rw [hfd] at this;unfold memC at this;simp only [hfb,List.length_nil] at this;exact this
 have HCF:=Lib.hid CF;have C1:=known_any m.kind;unfold memC;obtain ⟨kn,hkn⟩:∃ kn:Int,(m.kind.toNat:Int)=kn:=⟨_,rfl⟩;obtain ⟨bl,hbl⟩:∃ bl,m.body.length=bl:=⟨_,rfl⟩;rw [hkn,hbl] at HCF;rw [hkn] at C1;rw [hkn,hbl]
 have e1:((str fm.path).toList == (str m.path).toList)=decide (fm.path=m.path):=by
  rw [str_toList,str_toList]
  by_cases h:fm.path=m.path<;>simp [h]
 have e2:((str fm.target).toList == (str m.target).toList)=decide (fm.target=m.target):=by
  rw [str_toList,str_toList]
  by_cases h:fm.target=m.target<;>simp [h]
 rw [hfd];simp only;obtain ⟨x0,hx0⟩:∃ x,knownD m.kind=x:=⟨_,rfl⟩;obtain ⟨x1,hx1⟩:∃ x,decide (fm.path=m.path)=x:=⟨_,rfl⟩;obtain ⟨x2,hx2⟩:∃ x,decide (fm.target=m.target)=x:=⟨_,rfl⟩;rw [hx0] at C1;rw [hx0,hx1,hx2];rw [hx1] at e1;rw [hx2] at e2;have HB:=Lib.hid ((Below.refl w.heap.size w).alloc (Nat.le_refl _) (.cells #[.string (str m.path),.string (str m.target),.int .u8 kn,.int .i64 m.mode,.int .i64 m.uid,.int .i64 m.gid,.int .i64 m.time,.slice p bl c] 26));have HX:=Lib.hid (Blk.new w 26 #[.string (str m.path),.string (str m.target),.int .u8 kn,.int .i64 m.mode,.int .i64 m.uid,.int .i64 m.gid,.int .i64 m.time,.slice p bl c])
 clear hx0 hx1 hx2 hkn hbl hfd hfb CF h1 h2 hT
 cases x0 with
 | false =>
   go_enter Tryz.func26,Tryz.ntmps26
   go_wp2_with fail
   refine (C1 _).mono ?_
   rintro e w1 ⟨rfl,rfl⟩
   go_wp2
   go_ret
   exact ⟨rfl,HB.out⟩
 | true =>
   have hb3:∀ (wi:World),Below (w.alloc (.cells #[.string (str m.path),.string (str m.target),.int .u8 kn,.int .i64 m.mode,.int .i64 m.uid,.int .i64 m.gid,.int .i64 m.time,.slice p bl c] 26)).heap.size (w.alloc (.cells #[.string (str m.path),.string (str m.target),.int .u8 kn,.int .i64 m.mode,.int .i64 m.uid,.int .i64 m.gid,.int .i64 m.time,.slice p bl c] 26)) wi → Below w.heap.size w (wi.alloc (.cells #[.string (str fm.path),.string (str fm.target),.int .u8 (fm.kind.toNat:Int),.int .i64 fm.mode,.int .i64 fm.uid,.int .i64 fm.gid,.int .i64 fm.time,.slice none 0 0] 26))  :=fun wi hb =>
    (HB.out.trans (hb.mono HB.out.size)).alloc (HB.out.trans (hb.mono HB.out.size)).size _
   have HB3:=Lib.hid hb3;clear hb3
   by_cases h0:fe=0
   ·subst h0
    go_enter Tryz.func26,Tryz.ntmps26
    go_wp2_with fail
    refine (C1 _).mono ?_
    rintro e w1 ⟨rfl,rfl⟩
    go_wp2_with fail
    refine (HCF.out _ HB.out).mono ?_
    rintro e w2 ⟨rfl,hb⟩;have F:=Lib.hid (HB3.out _ hb);have b9:=HX.out.below (hb.alloc hb.size (.cells #[.string (str fm.path),.string (str fm.target),.int .u8 (fm.kind.toNat:Int),.int .i64 fm.mode,.int .i64 fm.uid,.int .i64 fm.gid,.int .i64 fm.time,.slice none 0 0] 26)) HX.out.lt;have y0:=b9.cell 0;have y1:=b9.cell 1;simp only [List.getElem?_toArray,List.getElem?_cons_zero,List.getElem?_cons_succ] at y0 y1;clear hb b9
    cases x1 with
    | false =>
      go_wp2
      go_ret
      exact ⟨rfl,F.out⟩
    | true =>
      go_wp2
      go_ret
      exact ⟨rfl,F.out⟩
   ·have hne:(fe == 0)=false:=by simpa using h0
    have hd:decide (fe=0)=false:=by simpa using h0
    rw [hd]
    go_enter Tryz.func26,Tryz.ntmps26
    go_wp2_with fail
    refine (C1 _).mono ?_
    rintro e w1 ⟨rfl,rfl⟩
    go_wp2_with fail
    refine (HCF.out _ HB.out).mono ?_
    rintro e w2 ⟨rfl,hb⟩;have F:=Lib.hid (HB3.out _ hb);clear hb
    go_wp2
    go_ret
    exact ⟨rfl,F.out⟩
end Go.Proofs.YtnpkcneojilmkaaGreatDoor.Mem
end
section
namespace Go.Proofs.YtnpkcneojilmkaaGreatDoor.Mem
open Go.ChangeShapes Go.WideShapes Go.ChangeAt Go.RowKit Base Byt Txt Bk Hp Head Num Path Block Go.Lib
set_option linter.unusedVariables false
set_option maxRecDepth 100000
theorem take_getD (l:List UInt8) (k:Nat) (h:k < l.length):l.take (k+1)=l.take k++[l.getD k 0]:=by
 rw [List.take_succ_eq_append_getElem h];simp [List.getD,h]
theorem mem_getD (l:List UInt8) (k:Nat) (h:k < l.length):l.getD k 0 ∈ l:=by
 rw [List.getD,List.getElem?_eq_getElem h];exact List.getElem_mem h
theorem rfits_any (s:ByteArray) (w:World) (hm:s.size≤140737488351232) :
 Calls Tryz.prog 48 #[.string s] w fun e w' => e=.returned (.bool (fitsD s.data.toList))∧w=w':=by
 have HLEN:Hid (s.data.toList.length=s.size):=Lib.hid (by simp)
 go_enter Tryz.func48,Tryz.ntmps48
 go_wp2
 go_loop [3] (fun i => ∃ (k:Nat),k≤s.size∧i=.int .i64 k∧Hid (∀ x ∈ s.data.toList.take k,x.toNat≤127)) (fun i => s.size - (RowKit.intOf i).toNat)
 case atStart => exact ⟨0,Nat.zero_le _,rfl,Lib.hid (by simp)⟩
 case round =>
  obtain ⟨k,hk,rfl,hr⟩:=hrel
  by_cases hlt:k < s.size
  ·have HG:Hid (((s[k]).toNat:Int)=((s.data.toList.getD k 0).toNat:Int)):=Lib.hid (by rw [s_at s k hlt])
   have hkl:k < s.data.toList.length:=by rw [HLEN.out];exact hlt
   have HT:=Lib.hid (take_getD s.data.toList k hkl);have HM:=Lib.hid (mem_getD s.data.toList k hkl);clear hkl;have hxb:=u8_bd (s[k]);obtain ⟨hx0,hx1⟩:=hxb
   by_cases h0:(127:Int) < ((s[k]).toNat:Int)
   ·have E:Hid (fitsD s.data.toList=false):=Lib.hid (by
     unfold fitsD;rw [Bool.eq_false_iff];intro h;have:=of_decide_eq_true (List.all_eq_true.1 h _ HM.out);have hg:=HG.out
     omega)
    go_wp2
    go_ret
    rw [E.out];exact ⟨rfl,rfl⟩
   ·go_wp2
    go_round
    case rel => exact ⟨k+1,by omega,by go_num,Lib.hid (fun y hy => by
     rw [HT.out,List.mem_append] at hy;rcases hy with hy | hy
     ·exact hr.out y hy
     ·simp only [List.mem_singleton] at hy
      subst hy;have hg:=HG.out
      omega)⟩
    case measure => simp [RowKit.intOf];omega
  ·have E:Hid (fitsD s.data.toList=true):=Lib.hid (by
    unfold fitsD;rw [List.all_eq_true];intro x hx
    exact decide_eq_true (hr.out x (by rw [List.take_of_length_le (by rw [HLEN.out];omega)];exact hx)))
   go_wp2
   go_ret
   rw [E.out];exact ⟨rfl,rfl⟩
def PadPost (w:World) (bs:List UInt8) (e:Ending) (w':World):Prop:=∃ v,e=.returned v∧OwnB w' w.heap.size v bs.length bs∧Kept noneB w w'
theorem rpadded_any (p:Option Addr) (n c:Nat) (bs:List UInt8) (w:World) (hl:bs.length=n) (hn:n≤100000000000) (h:BAt w p n bs) :
 Calls Tryz.prog 49 #[.slice p n c] w (PadPost w (padB bs)):=by
 obtain ⟨i0,hi,hz0,hz1,hz2⟩:=info_parts infoU8;have HI:=Lib.hid hi;have HZ0:=Lib.hid hz0;have HZ1:=Lib.hid hz1;have HZ2:=Lib.hid hz2;have HB:=Lib.hid h;have HL:=Lib.hid hl;clear hi hz0 hz1 hz2 h hl;have hbk:=blocks_ge n;have hdiv:((n:Int)+511) / 512 * 512=((blocksOf n:Nat):Int):=by unfold blocksOf;omega
 obtain ⟨B,hB⟩:∃ B,blocksOf n=B:=⟨_,rfl⟩;rw [hB] at hbk hdiv;have HBE:=Lib.hid hB;clear hB;obtain ⟨hb1,hb2⟩:=hbk
 go_enter Tryz.func49,Tryz.ntmps49
 go_wp2_with (at_builtin;refine append_bytes rfl _ _ 24 rfl w.heap.size 5 i0 Tryz.underlying24 HI.out HZ0.out HZ1.out HZ2.out _ 0 [] rfl (World.ownsRow_made w #[] 0 (Nat.le_refl _) (by decide) rfl) p n c bs rfl (HB.out.alloc _) HL.out ?d2 ?d3 ?_)
 case d2 => omega
 case d3 => simp
 intro v1 w1 hown hgrow;have HO1:Hid (OwnB w1 w.heap.size v1 n bs):=Lib.hid (by simpa [OwnB] using hown)
 have HK1:Hid (Kept noneB w w1):=Lib.hid ((((Kept.refl noneB w).alloc _)).grown hgrow (by intro k hk;simp [Value.ownBlock] at hk;omega))
 clear hown hgrow
 go_wp2_with (at_builtin;refine append_zeros_new rfl _ _ 24 3 rfl w.heap.size 5 i0 .i64 .i64 Tryz.underlying24 Tryz.underlying3 HI.out HZ0.out HZ1.out HZ2.out v1 n (nums bs) rfl HO1.out _ (B - n) rfl ?e1 ?e2 HK1.out.size ?_)
 case e1 => omega
 case e2 => omega
 intro v2 w2 hown hgrow _
 have F:Hid (PadPost w (padB bs) (.returned v2) w2):=Lib.hid (by
  refine ⟨v2,rfl,?_,HK1.out.grown hgrow (fun k hk => .inl (HO1.out.lt k hk).1)⟩
  have e:nums (padB bs)=nums bs++zs8 (B - n):=by
   unfold padB;rw [HL.out,HBE.out,← show nums (List.replicate (B - n) 0)=zs8 (B - n) by simp [nums,zs8]]
   unfold nums;rw [List.map_append]
  unfold OwnB;rw [e,padB_length,HL.out,HBE.out];rw [List.map_append]
  exact hown)
 clear hown hgrow
 go_wp2
 go_ret
 exact F.out
end Go.Proofs.YtnpkcneojilmkaaGreatDoor.Mem
end
section
namespace Go.Proofs.YtnpkcneojilmkaaGreatDoor.Mem
open Go.ChangeShapes Go.WideShapes Go.ChangeAt Go.RowKit Go.Shelf Base Byt Txt Bk Hp Head Go.Proofs.YtnpkcneojilmkaaGreatDoor.Mp Block Go.Lib
set_option linter.unusedVariables false
set_option maxRecDepth 100000
theorem wpAny_ops {P:Program} {ops ops':Array Oper} {Q:Exit → Act → World → Prop} {a:Act} {w:World} (h:ops=ops') (hw:wpAny P .any ops' Q ops'.size (Array.replicate ops'.size false) a w):wpAny P .any ops Q ops.size (Array.replicate ops.size false) a w:=h ▸ hw
theorem wp_append_bytes {w:World} {o:Oper} {b:Act} {Kk:Act → World → Prop} {Q:Exit → Act → World → Prop} (x y:Operand)
 (ho:o.op=.call { callee:=.builtin .append,args:=#[x,y],argTypes:=#[24,24] })
 (B:Nat) (v:Value) (xs:List UInt8) (hs:b.eval x=v) (hown:OwnB w B v xs.length xs)
 (p:Option Addr) (m c:Nat) (bs:List UInt8) (hx:b.eval y=.slice p m c) (hb:BAt w p m bs) (hl:bs.length=m) (hsum:xs.length+m≤140737488351232) (hbase:B≤w.heap.size)
 (h:∀ v' w',OwnB w' B v' (xs++bs).length (xs++bs) → w.grownBy w' v.ownBlock → NewOr w v v' → Kk (b.put o.dst v') w'):Oper.wp Tryz.prog o b w Kk Q:=by
 obtain ⟨i0,hi,hz0,hz1,hz2⟩:=info_parts infoU8
 have key:∃ v' w',(Builtin.append_ #[24,24] o.type #[v,.slice p m c]).run Tryz.prog w=.ok v' w'∧OwnB w' B v' (xs++bs).length (xs++bs)∧w.grownBy w' v.ownBlock∧NewOr w v v':=by
  rcases p with _ | ad
  ·have hm:m=0:=by
    rcases Nat.eq_zero_or_pos m with h0 | h0
    ·exact h0
    ·obtain ⟨_,_,he,_⟩:=hb h0
     cases he
   subst hm;obtain rfl:bs=[]:=List.eq_nil_of_length_eq_zero hl;refine ⟨v,w,?_,by simpa using hown,World.grownBy.refl w _,fun k hk => Or.inl hk⟩
   rcases hown.2 with ⟨rfl,h0⟩ | ⟨g,cap,cur,rfl,_,_,hnc,_⟩
   ·simp [Builtin.append_,run_underlying Tryz.underlying24,sizeOf,typeInfo,hi,Builtin.lenOf,Builtin.firstCells]
   ·simp [Builtin.append_,run_underlying Tryz.underlying24,sizeOf,typeInfo,hi,Builtin.lenOf,Builtin.firstCells,hnc,storeCells]
  ·obtain ⟨v',w',hr,h2,h3,h4⟩:=Mem.run_append_newS (P:=Tryz.prog) (w:=w) B 24 o.type 5 i0 (.int .u8 0) 1 1 Tryz.underlying24 hi hz0 hz1 hz2 rfl (by decide) v xs.length ((nums xs).map (Value.int .u8)) hown ad m c ((nums bs).map (Value.int .u8)) (by rw [List.length_map,nums_length,hl,Nat.mul_one]) (by
    intro j u hj
    have hjl:j < m:=by
     have:=(List.getElem?_eq_some_iff.1 hj).1;rw [List.length_map,nums_length,hl] at this;exact this
    obtain ⟨b',off,he,hc⟩:=hb (by omega)
    cases he
    rw [nums_getElem bs j (by omega)] at hj
    cases hj
    rw [WideShapes.add_plain]
    exact hc j hjl) (ints_oneCell .u8 _) (by unfold maxLen;omega) (by omega) hbase
   refine ⟨v',w',hr,?_,h3,h4⟩;unfold OwnB;rw [List.length_append,hl];have e:(nums (xs++bs)).map (Value.int .u8)=(nums xs).map (Value.int .u8)++(nums bs).map (Value.int .u8):=by unfold nums;rw [List.map_append,List.map_append]
   rw [e];exact h2
 obtain ⟨v',w',hr,h2,h3,h4⟩:=key;have hr2:(execOp b.eval o).run Tryz.prog w=.ok (.value v') w':=by simp [execOp,ho,resolve,invoke,builtin,hs,hx,hr,Result.andThen]
 unfold Oper.wp;rw [hr2,Oper.upon_value];exact h v' w' h2 h3 h4
noncomputable def put24Ops:Array Oper:=regionAt Tryz.f31 24
structure put24G where
 v1:Value
 vp:Value
 v2:Value
def put24V (bm gy:Nat) (v0:Value) (p:Option Addr) (bl c:Nat) (γ:put24G):Nat → Value
 | 0 => v0 | 1 => .slice (some ⟨gy,0,none⟩) 512 512 | 2 => γ.v1 | 3 => .pointer (some ⟨bm,7,none⟩) | 4 => .slice p bl c | 5 => γ.vp | 6 => γ.v2 | 7 => γ.v2 | _ => undef
theorem put24_size:put24Ops.size=8:=rfl
theorem put24_apart:apartG put24Ops 132=true:=by kernel_rfl
theorem put24_dst0:dstAt put24Ops 0=some 125:=rfl
theorem put24_op0:∃ o,put24Ops[0]? = some o∧o.op=.move (.tmp 8)∧o.dst=some 125:=⟨_,rfl,rfl,rfl⟩
theorem put24_dst1:dstAt put24Ops 1=some 126:=rfl
theorem put24_op1:∃ o,put24Ops[1]? = some o∧o.op=.move (.tmp 11)∧o.dst=some 126:=⟨_,rfl,rfl,rfl⟩
theorem put24_dst2:dstAt put24Ops 2=some 127:=rfl
theorem put24_op2:∃ o,put24Ops[2]? = some o∧o.op=.call { callee:=.builtin .append,args:=#[.tmp 125,.tmp 126],argTypes:=#[24,24] }∧o.dst=some 127:=⟨_,rfl,rfl,rfl⟩
theorem put24_dst3:dstAt put24Ops 3=some 128:=rfl
theorem put24_op3:∃ o,put24Ops[3]? = some o∧o.op=.fieldAddr 26 (.tmp 1) 4∧o.dst=some 128:=⟨_,rfl,rfl,rfl⟩
theorem put24_dst4:dstAt put24Ops 4=some 129:=rfl
theorem put24_op4:∃ o,put24Ops[4]? = some o∧o.op=.load 24 (.tmp 128)∧o.dst=some 129:=⟨_,rfl,rfl,rfl⟩
theorem put24_dst5:dstAt put24Ops 5=some 130:=rfl
theorem put24_op5:∃ o,put24Ops[5]? = some o∧o.op=.call { callee:=.value (.func 49),args:=#[.tmp 129],argTypes:=#[24] }∧o.dst=some 130:=⟨_,rfl,rfl,rfl⟩
theorem put24_dst6:dstAt put24Ops 6=some 131:=rfl
theorem put24_op6:∃ o,put24Ops[6]? = some o∧o.op=.call { callee:=.builtin .append,args:=#[.tmp 127,.tmp 130],argTypes:=#[24,24] }∧o.dst=some 131:=⟨_,rfl,rfl,rfl⟩
theorem put24_dst7:dstAt put24Ops 7=some 2:=rfl
theorem put24_op7:∃ o,put24Ops[7]? = some o∧o.op=.assign (.tmp 131)∧o.dst=some 2:=⟨_,rfl,rfl,rfl⟩
theorem put24V_v1 (bm gy:Nat) (v0:Value) (p:Option Addr) (bl c:Nat) (γ:put24G) (x:Value) {i:Nat} (h:i≠2):put24V bm gy v0 p bl c { γ with v1:=x } i=put24V bm gy v0 p bl c γ i:=by
 unfold put24V
 split<;>first | rfl | (exfalso;omega)
theorem put24V_vp (bm gy:Nat) (v0:Value) (p:Option Addr) (bl c:Nat) (γ:put24G) (x:Value) {i:Nat} (h:i≠5):put24V bm gy v0 p bl c { γ with vp:=x } i=put24V bm gy v0 p bl c γ i:=by
 unfold put24V
 split<;>first | rfl | (exfalso;omega)
theorem put24V_v2 (bm gy:Nat) (v0:Value) (p:Option Addr) (bl c:Nat) (γ:put24G) (x:Value) {i:Nat} (h:i≠6∧i≠7):put24V bm gy v0 p bl c { γ with v2:=x } i=put24V bm gy v0 p bl c γ i:=by
 unfold put24V
 split<;>first | rfl | (exfalso;omega)
structure W24 (w:World) (B bm:Nat) (M:Array Value) (v0:Value) (X Y P:List UInt8) (w1:World) (γ:put24G) (listed:Array Bool) (w':World):Prop where
 bel:Below w.heap.size w w'
 le:w1.heap.size≤w'.heap.size
 mem:Blk w' bm 26 M
 ysrc:listed.getD 2 false=false → ∀ b o,BAt w1 (some ⟨b,o,none⟩) 512 Y → (∀ k,v0.ownBlock=some k → k≠b) → BAt w' (some ⟨b,o,none⟩) 512 Y
 o0:listed.getD 2 false=false → OwnB w' B v0 X.length X
 o1:listed.getD 2 false=true → listed.getD 6 false=false → OwnB w' B γ.v1 (X++Y).length (X++Y)
 pd:listed.getD 5 false=true → listed.getD 6 false=false → OwnB w' w1.heap.size γ.vp P.length P
 fin:listed.getD 6 false=true → OwnB w' B γ.v2 ((X++Y)++P).length ((X++Y)++P)
 c6:listed.getD 6 false=true → listed.getD 2 false=true∧listed.getD 5 false=true
theorem W24.keep {w w1 w':World} {B bm:Nat} {M:Array Value} {v0:Value} {X Y P:List UInt8} {γ:put24G} {listed:Array Bool} (hW:W24 w B bm M v0 X Y P w1 γ listed w') {j:Nat} (hlt:j < listed.size) (hj:j≠2∧j≠5∧j≠6):W24 w B bm M v0 X Y P w1 γ (listed.setIfInBounds j true) w':=by
 have e2:(listed.setIfInBounds j true).getD 2 false=listed.getD 2 false:=by rw [listed_get hlt,if_neg (by omega)]
 have e5:(listed.setIfInBounds j true).getD 5 false=listed.getD 5 false:=by rw [listed_get hlt,if_neg (by omega)]
 have e6:(listed.setIfInBounds j true).getD 6 false=listed.getD 6 false:=by rw [listed_get hlt,if_neg (by omega)]
 exact ⟨hW.bel,hW.le,hW.mem,by rw [e2];exact hW.ysrc,by rw [e2];exact hW.o0,by rw [e2,e6];exact hW.o1,by rw [e5,e6];exact hW.pd,by rw [e6];exact hW.fin,by rw [e2,e5,e6];exact hW.c6⟩
set_option maxHeartbeats 4000000 in
theorem put24_region {Q':Exit → Act → World → Prop} {a0:Act} {w w1:World} (B bm gy:Nat) (M:Array Value) (v0:Value) (X Y body:List UInt8) (p:Option Addr) (bl c:Nat)
 (hsz:132≤a0.tmps.size) (h8:a0.eval (.tmp 8)=v0) (h11:a0.eval (.tmp 11)=.slice (some ⟨gy,0,none⟩) 512 512) (h1:a0.eval (.tmp 1)=.pointer (some ⟨bm,0,none⟩))
 (hb1:Below w.heap.size w w1) (hmem:Blk w1 bm 26 M) (hM:M[7]? = some (.slice p bl c)) (hbm:w.heap.size≤bm) (hv0:OwnB w1 B v0 X.length X) (hB:bm < B) (hBw:B≤w1.heap.size) (hwB:w.heap.size≤B) (hy:BAt w1 (some ⟨gy,0,none⟩) 512 Y) (hyl:Y.length=512) (hyb:∀ k,v0.ownBlock=some k → k≠gy)
 (hbody:BAt w p bl body) (hbl:body.length=bl) (hbl2:bl≤1048576) (hX:X.length≤10000000)
 (hQ:∀ (γ:put24G) w',OwnB w' B γ.v2 ((X++Y)++padB body).length ((X++Y)++padB body) → Below w.heap.size w w' → Q' .normal ((((((((a0.put (some 125) (v0)).put (some 126) (.slice (some ⟨gy,0,none⟩) 512 512)).put (some 127) (γ.v1)).put (some 128) (.pointer (some ⟨bm,7,none⟩))).put (some 129) (.slice p bl c)).put (some 130) (γ.vp)).put (some 131) (γ.v2)).put (some 2) (γ.v2)) w') :
 wpAny Tryz.prog .any put24Ops Q' put24Ops.size (Array.replicate put24Ops.size false) a0 w1.drew:=by
 have no:∀ j,(Array.replicate put24Ops.size false).getD j false=false:=fun j => by
  rw [Array.getD_eq_getD_getElem?,Array.getElem?_replicate]
  split<;>rfl
 have hpl:=padB_length body;have hpg:=(blocks_ge body.length).2;obtain ⟨P,hP⟩:∃ P,padB body=P:=⟨_,rfl⟩;rw [hP] at hQ hpl;refine wpAny_ghost (Γ:=put24G) (put24V bm gy v0 p bl c) { v1:=undef,vp:=undef,v2:=undef } a0 (fun γ listed w' => W24 w B bm M v0 X Y P w1 γ listed w'∧(listed.getD 7 false=true → listed.getD 6 false=true)) 132 put24_apart hsz ?_ ?_ ?_
 ·intro γ listed a w' j o hRI ho hun hdep
  have hlt:=lt_of_unlisted hun;have hW:=hRI.wd.1
  have hj:j < 8:=by
   have:=(Array.getElem?_eq_some_iff.1 ho).1
   rwa [put24_size] at this
  have same:∀ {j':Nat} {o':Oper},put24Ops[j']? = some o' → j=j' → o'=o:=fun {j' o'} h' e => by subst e;exact Option.some.inj (h'.symm.trans ho)
  have hlf:=getD_flip hun;have hne:∀ i,listed.getD i false=true → i≠j:=fun i hi e => by rw [e,hlf] at hi;cases hi
  rcases (show j=0 ∨ j=1 ∨ j=2 ∨ j=3 ∨ j=4 ∨ j=5 ∨ j=6 ∨ j=7 by omega) with rfl | rfl | rfl | rfl | rfl | rfl | rfl | rfl
  ·obtain ⟨o',ho',hop,hdst⟩:=put24_op0
   obtain rfl:=same ho' rfl;have e0:a.eval (.tmp 8)=v0:=(hRI.old (t:=8) (by kernel_rfl)).trans h8
   exact wp_move _ _ (Or.inl hop) e0 ⟨γ,fun _ _ => rfl,rfl,hW.keep hlt (by decide),(fun hx => by rw [listed_get hlt,if_neg (by decide)] at hx;rw [listed_get hlt];split;rfl;exact hRI.wd.2 hx)⟩
  ·obtain ⟨o',ho',hop,hdst⟩:=put24_op1
   obtain rfl:=same ho' rfl;have e0:a.eval (.tmp 11)=.slice (some ⟨gy,0,none⟩) 512 512:=(hRI.old (t:=11) (by kernel_rfl)).trans h11
   exact wp_move _ _ (Or.inl hop) e0 ⟨γ,fun _ _ => rfl,rfl,hW.keep hlt (by decide),(fun hx => by rw [listed_get hlt,if_neg (by decide)] at hx;rw [listed_get hlt];split;rfl;exact hRI.wd.2 hx)⟩
  ·obtain ⟨o',ho',hop,hdst⟩:=put24_op2
   obtain rfl:=same ho' rfl;have x0:a.eval (.tmp 125)=v0:=(hRI.get ho hdep (i:=0) (d:=125) (by kernel_rfl) rfl)
   have x1:a.eval (.tmp 126)=.slice (some ⟨gy,0,none⟩) 512 512:=(hRI.get ho hdep (i:=1) (d:=126) (by kernel_rfl) rfl)
   have e2:(listed.setIfInBounds 2 true).getD 2 false=true:=by rw [listed_get hlt,if_pos rfl]
   have e5:(listed.setIfInBounds 2 true).getD 5 false=listed.getD 5 false:=by rw [listed_get hlt,if_neg (by decide)]
   have e6:(listed.setIfInBounds 2 true).getD 6 false=listed.getD 6 false:=by rw [listed_get hlt,if_neg (by decide)]
   have hy':=hW.ysrc hlf gy 0 hy hyb
   have n6:listed.getD 6 false=false:=by
    cases hx:listed.getD 6 false with
    | false => rfl
    | true => have:=(hW.c6 hx).1;rw [hlf] at this;cases this
   refine wp_append_bytes _ _ hop B v0 X x0 (hW.o0 hlf) (some ⟨gy,0,none⟩) 512 512 Y x1 hy' hyl (by omega) (Nat.le_trans hBw hW.le) (fun v' w2 g1 g2 g3 => ⟨{ γ with v1:=v' },fun i hi => put24V_v1 _ _ _ _ _ _ _ _ (hne i hi),rfl,?_,fun hx => by rw [listed_get hlt,if_neg (by decide)] at hx;rw [listed_get hlt];split;rfl;exact hRI.wd.2 hx⟩)
   have hk:Kept (fun k => v0.ownBlock=some k) w' w2:=(Kept.refl _ w').grown g2 (fun k hk => .inr hk)
   refine ⟨hW.bel.trans (hk.below hW.bel.size (fun k hk => Nat.le_trans hwB (hv0.lt k hk).1)),Nat.le_trans hW.le hk.size,hW.mem.keptS hk (fun e => by have:=(hv0.lt _ e).1;omega),fun hx => (by rw [e2] at hx;cases hx),fun hx => (by rw [e2] at hx;cases hx),fun _ _ => g1,fun hx _ => ?_,fun hx => (by rw [e6,n6] at hx;cases hx),fun hx => (by rw [e6,n6] at hx;cases hx)⟩
   rw [e5] at hx;exact (hW.pd hx n6).kept hk (fun k hk e => by have h1:=((hW.pd hx n6).lt k hk).1;have h2:=(hv0.lt k e).2;omega)
  ·obtain ⟨o',ho',hop,hdst⟩:=put24_op3
   obtain rfl:=same ho' rfl;have e0:a.eval (.tmp 1)=.pointer (some ⟨bm,0,none⟩):=(hRI.old (t:=1) (by kernel_rfl)).trans h1
   refine wp_run _ ?_ ⟨γ,fun _ _ => rfl,rfl,hW.keep hlt (by decide),(fun hx => by rw [listed_get hlt,if_neg (by decide)] at hx;rw [listed_get hlt];split;rfl;exact hRI.wd.2 hx)⟩
   generalize a.eval=ev at e0 ⊢;simp [go_sem,execOp,hop,e0,put24V]
  ·obtain ⟨o',ho',hop,hdst⟩:=put24_op4
   obtain rfl:=same ho' rfl;have e0:a.eval (.tmp 128)=.pointer (some ⟨bm,7,none⟩):=(hRI.get ho hdep (i:=3) (d:=128) (by kernel_rfl) rfl)
   have q:=hW.mem.cell 7;rw [hM] at q;refine wp_run _ ?_ ⟨γ,fun _ _ => rfl,rfl,hW.keep hlt (by decide),(fun hx => by rw [listed_get hlt,if_neg (by decide)] at hx;rw [listed_get hlt];split;rfl;exact hRI.wd.2 hx)⟩
   generalize a.eval=ev at e0 ⊢;simp [go_sem,execOp,hop,e0,q,put24V]
  ·obtain ⟨o',ho',hop,hdst⟩:=put24_op5
   obtain rfl:=same ho' rfl;have x0:a.eval (.tmp 129)=.slice p bl c:=(hRI.get ho hdep (i:=4) (d:=129) (by kernel_rfl) rfl)
   have e2:(listed.setIfInBounds 5 true).getD 2 false=listed.getD 2 false:=by rw [listed_get hlt,if_neg (by decide)]
   have e5:(listed.setIfInBounds 5 true).getD 5 false=true:=by rw [listed_get hlt,if_pos rfl]
   have e6:(listed.setIfInBounds 5 true).getD 6 false=listed.getD 6 false:=by rw [listed_get hlt,if_neg (by decide)]
   have n6:listed.getD 6 false=false:=by
    cases hx:listed.getD 6 false with
    | false => rfl
    | true => have:=(hW.c6 hx).2;rw [hlf] at this;cases this
   have hcall:=rpadded_any p bl c body w' hbl (by omega) (hbody.below hW.bel)
   refine wp_callE _ _ _ hop #[.slice p bl c] (by simp [x0]) (enters_of Tryz.func49 (by kernel_rfl) rfl) (fun v w2 => OwnB w2 w'.heap.size v (padB body).length (padB body)∧Kept noneB w' w2) (hcall.mono fun e w2 he => by obtain ⟨v,rfl,g1,g2⟩:=he;exact ⟨v,rfl,g1,g2⟩) (fun v w2 hR => ⟨{ γ with vp:=v },fun i hi => put24V_vp _ _ _ _ _ _ _ _ (hne i hi),rfl,?_,fun hx => by rw [listed_get hlt,if_neg (by decide)] at hx;rw [listed_get hlt];split;rfl;exact hRI.wd.2 hx⟩)
   obtain ⟨g1,g2⟩:=hR;rw [hP] at g1;refine ⟨hW.bel.trans (g2.below hW.bel.size (fun _ h => h.elim)),Nat.le_trans hW.le g2.size,hW.mem.keptS g2 id,fun hx b o h1 h2 => ?_,fun hx => ?_,fun hx _ => ?_,fun _ _ => g1.mono hW.le,fun hx => (by rw [e6,n6] at hx;cases hx),fun hx => (by rw [e6,n6] at hx;cases hx)⟩
   ·rw [e2] at hx
    exact (hW.ysrc hx b o h1 h2).kept g2 (fun _ _ _ => id)
   ·rw [e2] at hx
    exact (hW.o0 hx).kept g2 (fun _ _ => id)
   ·rw [e2] at hx
    exact (hW.o1 hx n6).kept g2 (fun _ _ => id)
  ·obtain ⟨o',ho',hop,hdst⟩:=put24_op6
   obtain rfl:=same ho' rfl;have x0:a.eval (.tmp 127)=γ.v1:=(hRI.get ho hdep (i:=2) (d:=127) (by kernel_rfl) rfl)
   have x1:a.eval (.tmp 130)=γ.vp:=(hRI.get ho hdep (i:=5) (d:=130) (by kernel_rfl) rfl)
   have e2:(listed.setIfInBounds 6 true).getD 2 false=listed.getD 2 false:=by rw [listed_get hlt,if_neg (by decide)]
   have e5:(listed.setIfInBounds 6 true).getD 5 false=listed.getD 5 false:=by rw [listed_get hlt,if_neg (by decide)]
   have e6:(listed.setIfInBounds 6 true).getD 6 false=true:=by rw [listed_get hlt,if_pos rfl]
   have l2:listed.getD 2 false=true:=dep_listed ho hdep (by kernel_rfl)
   have l5:listed.getD 5 false=true:=dep_listed ho hdep (by kernel_rfl)
   obtain ⟨pp,pc,hvp,_,_,hpb,_,_⟩:=(hW.pd l5 hlf).slice;rw [hvp] at x1;have hlxy:(X++Y).length≤20000000:=by rw [List.length_append];omega
   have ho1:=hW.o1 l2 hlf;refine wp_append_bytes _ _ hop B γ.v1 (X++Y) x0 ho1 pp P.length pc P x1 hpb rfl (by omega) (Nat.le_trans hBw hW.le) (fun v' w2 g1 g2 g3 => ⟨{ γ with v2:=v' },fun i hi => put24V_v2 _ _ _ _ _ _ _ _ ⟨hne i hi,fun e => ?_⟩,rfl,?_,fun _ => by rw [listed_get hlt,if_pos rfl]⟩)
   ·subst e
    rw [hRI.wd.2 hi] at hlf
    cases hlf
   have hk:Kept (fun k => γ.v1.ownBlock=some k) w' w2:=(Kept.refl _ w').grown g2 (fun k hk => .inr hk)
   exact ⟨hW.bel.trans (hk.below hW.bel.size (fun k hk => Nat.le_trans hwB (ho1.lt k hk).1)),Nat.le_trans hW.le hk.size,hW.mem.keptS hk (fun e => by have:=(ho1.lt _ e).1;omega),fun hx => (by rw [e2,l2] at hx;cases hx),fun hx => (by rw [e2,l2] at hx;cases hx),fun _ hx => (by rw [e6] at hx;cases hx),fun _ hx => (by rw [e6] at hx;cases hx),fun _ => g1,fun _ => ⟨by rw [e2];exact l2,by rw [e5];exact l5⟩⟩
  ·obtain ⟨o',ho',hop,hdst⟩:=put24_op7
   obtain rfl:=same ho' rfl;have e0:a.eval (.tmp 131)=γ.v2:=(hRI.get ho hdep (i:=6) (d:=131) (by kernel_rfl) rfl)
   exact wp_move _ _ (Or.inr hop) e0 ⟨γ,fun _ _ => rfl,rfl,hW.keep hlt (by decide),(fun _ => by rw [listed_get hlt,if_neg (by decide)];exact dep_listed ho hdep (by kernel_rfl))⟩
 ·intro γ listed a w' hRI hall
  have all:∀ j,j < 8 → listed.getD j false=true:=fun j hj => hall j (by rw [put24_size];exact hj)
  have hW:=hRI.wd.1;rw [done_putAllG 132 put24_apart hsz hRI hall,put24_size];simp only [putAll,put24_dst0,put24_dst1,put24_dst2,put24_dst3,put24_dst4,put24_dst5,put24_dst6,put24_dst7,put24V];exact hQ γ w' (hW.fin (all 6 (by omega))) hW.bel
 ·exact ⟨⟨hb1.drew,Nat.le_refl _,hmem.drew,fun _ b o h1 _ => h1.below (Below.refl _ _).drew,fun _ => hv0.kept ((Kept.refl noneB w1).drew) (fun _ _ => id),fun hx => (by rw [no] at hx;cases hx),fun hx => (by rw [no] at hx;cases hx),fun hx => (by rw [no] at hx;cases hx),fun hx => (by rw [no] at hx;cases hx)⟩,fun hx => (by rw [no] at hx;cases hx)⟩
end Go.Proofs.YtnpkcneojilmkaaGreatDoor.Mem
end
section
namespace Go.Proofs.YtnpkcneojilmkaaGreatDoor.Mem
open Go.ChangeShapes Go.WideShapes Go.ChangeAt Go.RowKit Base Byt Txt Bk Hp Head Num Path Block Rec Attr Go.Proofs.YtnpkcneojilmkaaGreatDoor.Mp Go.Lib
set_option linter.unusedVariables false
set_option maxRecDepth 100000
structure PM (w:World) (M:Array Value) (wx:World) (h:HeadV):Prop where
 bel:Below w.heap.size w wx
 mem:Blk wx w.heap.size 26 M
 hd:Blk wx (w.heap.size+1) 41 (headC h)
theorem PM.below {w:World} {M:Array Value} {wx wy:World} {h:HeadV} (hm:PM w M wx h) (hb:Below wx.heap.size wx wy):PM w M wy h:=
 ⟨hm.bel.trans (hb.mono hm.bel.size),hm.mem.below hb hm.mem.lt,hm.hd.below hb hm.hd.lt⟩
theorem PM.kept {w:World} {M:Array Value} {wx wy:World} {h:HeadV} (hm:PM w M wx h) (hk:Kept noneB wx wy):PM w M wy h:=hm.below (hk.below (Nat.le_refl _) (fun _ h => h.elim))
theorem PM.set {w:World} {M:Array Value} {wx:World} {h h':HeadV} (hm:PM w M wx h) (i:Nat) (v:Value) (hb:Blk (wx.setCell ⟨w.heap.size+1,i,none⟩ v) (w.heap.size+1) 41 (headC h')):PM w M (wx.setCell ⟨w.heap.size+1,i,none⟩ v) h':=
 ⟨hm.bel.setCell (p:=⟨w.heap.size+1,i,none⟩) (Nat.le_succ _) v,hm.mem.other (by omega) v,hb⟩
theorem rcutV_is (l:List UInt8):∃ a b,Head.cutV l=.tuple #[.string a,.string b,.bool (cutR l).isSome]:=by
 unfold Head.cutV
 cases cutR l with
 | none => exact ⟨_,_,rfl⟩
 | some x => exact ⟨_,_,rfl⟩
theorem ownB_row {w:World} {g B:Nat} {bs:List UInt8} (h:RowB w g bs) (hB:B≤g) (hc:bs.length≤maxLen):OwnB w B (.slice (some ⟨g,0,none⟩) bs.length bs.length) bs.length bs:=by
 refine ⟨by simp [nums],.inr ⟨g,bs.length,(bs.map bv).toArray,rfl,hB,h,Nat.le_refl _,hc,by simp,?_⟩⟩
 rw [Nat.mul_one,List.take_of_length_le (by simp)]
 unfold nums;rw [List.map_map];rfl
set_option maxHeartbeats 16000000 in
theorem rput_any (m:MemV) (p:Option Addr) (c:Nat) (w:World) (hg:GoodM m) (hb:BAt w p m.body.length m.body) :
 Calls Tryz.prog 31 #[.agg (memC m p c)] w (PadPost w (putM m)):=by
 have hpl:=hg.pathL;have htl:m.target.length≤200:=target_le hg;obtain ⟨bl,hbl⟩:∃ bl,m.body.length=bl:=⟨_,rfl⟩;have hblm:bl≤1048576:=by rw [← hbl];exact hg.body
 obtain ⟨u,hu⟩:∃ u:Nat,m.uid=(u:Int):=⟨m.uid.toNat,by have:=hg.uid;omega⟩
 obtain ⟨g,hgg⟩:∃ g:Nat,m.gid=(g:Int):=⟨m.gid.toNat,by have:=hg.gid;omega⟩
 obtain ⟨t,ht⟩:∃ t:Nat,m.time=(t:Int):=⟨m.time.toNat,by have:=hg.time;omega⟩
 have hun:u < 1000000000000000000:=by have:=hg.uid;omega
 have hgn:g < 1000000000000000000:=by have:=hg.gid;omega
 have htn:t < 1000000000000000000:=by have:=hg.time;omega
 obtain ⟨b0,hb0⟩:∃ b,(cutR m.path).isSome=b:=⟨_,rfl⟩;obtain ⟨f0,hf0⟩:∃ b,fitsD m.path=b:=⟨_,rfl⟩;obtain ⟨f1,hf1⟩:∃ b,fitsD m.target=b:=⟨_,rfl⟩;obtain ⟨lp,hlp⟩:∃ b,longP m=b:=⟨_,rfl⟩;obtain ⟨ll,hll⟩:∃ b,longL m=b:=⟨_,rfl⟩
 have HLP:Hid (lp=(!b0 || !f0)):=Lib.hid (by
  rw [← hlp,← hb0,← hf0];unfold longP
  cases cutR m.path<;>rfl)
 have HLL:Hid (ll=(decide (100 < m.target.length) || !f1)):=Lib.hid (by rw [← hll,← hf1];rfl)
 obtain ⟨S1,hS1⟩:∃ S,(if lp then lineD (keyT 4) m.path else [])=S:=⟨_,rfl⟩
 obtain ⟨S2,hS2⟩:∃ S,S1++(if ll then lineD (keyT 5) m.target else [])=S:=⟨_,rfl⟩
 obtain ⟨S3,hS3⟩:∃ S,S2++(if 2097151 < u then lineD (keyT 0) (decL u) else [])=S:=⟨_,rfl⟩
 obtain ⟨S4,hS4⟩:∃ S,S3++(if 2097151 < g then lineD (keyT 1) (decL g) else [])=S:=⟨_,rfl⟩
 obtain ⟨S5,hS5⟩:∃ S,S4++(if 8589934591 < t then lineD (keyT 2) (decL t) else [])=S:=⟨_,rfl⟩
 have HS5:Hid (linesD (recsM m)=S5):=Lib.hid (by
  have e:∀ (c:Prop) [Decidable c] (k v:List UInt8),linesD (if c then [(k,v)] else [])=if c then lineD k v else []:=fun c _ k v => by
   split<;>simp [linesD]
  have ea:∀ a b:RecL,linesD (a++b)=linesD a++linesD b:=fun a b => by simp [linesD]
  rw [← hS5,← hS4,← hS3,← hS2,← hS1];unfold recsM;rw [ea,ea,ea,ea,e,e,e,e,e,hlp,hll,hu,hgg,ht];simp only [Int.toNat_natCast]
  congr 1
  ·congr 1
   ·congr 1
    split<;>split<;>first | rfl | omega
   ·split<;>split<;>first | rfl | omega
  ·split<;>split<;>first | rfl | omega)
 have HSL:Hid (S1.length≤S2.length∧S2.length≤S3.length∧S3.length≤S4.length∧S4.length≤S5.length):=Lib.hid (by
  rw [← hS5,← hS4,← hS3,← hS2];simp only [List.length_append]
  omega)
 have HS5L:Hid (S5.length≤1048576):=Lib.hid (by rw [← HS5.out];exact linesM_le hg)
 obtain ⟨h1,hh1⟩:∃ h:HeadV,HeadV.mk (if lp then longN else m.path) m.target m.kind m.mode (u:Int) (g:Int) (t:Int) (bl:Int) false=h:=⟨_,rfl⟩
 obtain ⟨h2,hh2⟩:∃ h:HeadV,{ h1 with link:=if ll then longN else m.target }=h:=⟨_,rfl⟩
 obtain ⟨h3,hh3⟩:∃ h:HeadV,{ h2 with uid:=if 2097151 < u then 0 else (u:Int) }=h:=⟨_,rfl⟩
 obtain ⟨h4,hh4⟩:∃ h:HeadV,{ h3 with gid:=if 2097151 < g then 0 else (g:Int) }=h:=⟨_,rfl⟩
 obtain ⟨h5,hh5⟩:∃ h:HeadV,{ h4 with time:=if 8589934591 < t then 0 else (t:Int) }=h:=⟨_,rfl⟩
 have HH5:Hid (headM m=h5):=Lib.hid (by
  rw [← hh5,← hh4,← hh3,← hh2,← hh1];unfold headM;rw [hlp,hll,hu,hgg,ht,hbl];have c1:((2097151:Int) < (u:Int)) ↔ 2097151 < u:=by omega
  have c2:((2097151:Int) < (g:Int)) ↔ 2097151 < g:=by omega
  have c3:((8589934591:Int) < (t:Int)) ↔ 8589934591 < t:=by omega
  simp only [c1,c2,c3])
 have HD1:=Lib.hid hS1;have HD2:=Lib.hid hS2;have HD3:=Lib.hid hS3;have HD4:=Lib.hid hS4;have HD5:=Lib.hid hS5;have HE1:=Lib.hid hh1;have HE2:=Lib.hid hh2;have HE3:=Lib.hid hh3;have HE4:=Lib.hid hh4;have HE5:=Lib.hid hh5;rw [hbl] at hb;obtain ⟨W1,hW1⟩:∃ W1,(w.alloc (.cells #[.string (str m.path),.string (str m.target),.int .u8 (m.kind.toNat:Int),.int .i64 m.mode,.int .i64 (u:Int),.int .i64 (g:Int),.int .i64 (t:Int),.slice p bl c] 26)).alloc (.cells (headC ⟨m.path,m.target,m.kind,m.mode,(u:Int),(g:Int),(t:Int),(bl:Int),false⟩) 41)=W1:=⟨_,rfl⟩
 have hP1:PM w #[.string (str m.path),.string (str m.target),.int .u8 (m.kind.toNat:Int),.int .i64 m.mode,.int .i64 (u:Int),.int .i64 (g:Int),.int .i64 (t:Int),.slice p bl c] W1 ⟨m.path,m.target,m.kind,m.mode,(u:Int),(g:Int),(t:Int),(bl:Int),false⟩:=by
  have b1:=Blk.new (w.alloc (.cells #[.string (str m.path),.string (str m.target),.int .u8 (m.kind.toNat:Int),.int .i64 m.mode,.int .i64 (u:Int),.int .i64 (g:Int),.int .i64 (t:Int),.slice p bl c] 26)) 41 (headC ⟨m.path,m.target,m.kind,m.mode,(u:Int),(g:Int),(t:Int),(bl:Int),false⟩);rw [World.size_alloc] at b1;rw [← hW1];exact ⟨((Below.refl _ w).alloc (Nat.le_refl _) _).alloc (by simp) _,(Blk.new w _ _).alloc _,b1⟩
 have HP1:=Lib.hid hP1;have HB:=Lib.hid hb;have HG:=Lib.hid hg;have HBL:=Lib.hid hbl;have HW1:=Lib.hid hW1;have HTN:=Lib.hid (And.intro hpl htl);have HUN:=Lib.hid (And.intro hun (And.intro hgn htn));have HBM:=Lib.hid hblm;obtain ⟨cx,cy,hcv⟩:=rcutV_is m.path;rw [hb0] at hcv;have HCV:=Lib.hid hcv;have HF0:=Lib.hid hf0;have HF1:=Lib.hid hf1;unfold memC;rw [hbl,hu,hgg,ht];clear hP1 hb hg hbl hW1 hpl htl hcv hu hgg ht hun hgn htn hb0 hf0 hf1 hlp hll hS1 hS2 hS3 hS4 hS5 hh1 hh2 hh3 hh4 hh5 hblm
 go_enter Tryz.func31,Tryz.ntmps31
 go_upto_region 3 with fail
 rw [show (w.alloc (.cells #[.string (str m.path),.string (str m.target),.int .u8 (m.kind.toNat:Int),.int .i64 m.mode,.int .i64 (u:Int),.int .i64 (g:Int),.int .i64 (t:Int),.slice p bl c] 26)).alloc (.cells #[.string (str m.path),.string (str m.target),.int .u8 (m.kind.toNat:Int),.int .i64 m.mode,.int .i64 (u:Int),.int .i64 (g:Int),.int .i64 (t:Int),.int .i64 (bl:Int),.bool false] 41)=W1 from HW1.out]
 have y0:=HP1.out.mem.cell 0;simp only [List.getElem?_toArray,List.getElem?_cons_zero] at y0
 go_wp2_with fail
 refine (rcut_any (str m.path) W1 (by rw [str_size];have:=HTN.out.1;omega)).mono ?_
 rw [str_data,HCV.out];rintro e w2 ⟨rfl,hk2⟩;have HP2:=Lib.hid (HP1.out.kept hk2);clear hk2 y0;have y0:=HP2.out.mem.cell 0;simp only [List.getElem?_toArray,List.getElem?_cons_zero] at y0
 go_upto_region 4 with fail
 go_cut [39] (fun s39 wx => s39=.bool lp∧wx=w2)
 case first =>
  cases b0 with
  | false =>
    go_wp2
    go_meet
    exact ⟨by rw [HLP.out];rfl,rfl⟩
  | true =>
    go_wp2_with fail
    refine (rfits_any (str m.path) w2 (by rw [str_size];have:=HTN.out.1;omega)).mono ?_
    rw [str_data,HF0.out];rintro e w3 ⟨rfl,rfl⟩
    go_wp2
    go_meet
    exact ⟨by rw [HLP.out];rfl,rfl⟩
 case rest =>
  obtain ⟨rfl,rfl⟩:=hcut
  go_upto_if 39 with fail
  go_cut [4] (fun s4 wx => s4=.string (str S1)∧PM w #[.string (str m.path),.string (str m.target),.int .u8 (m.kind.toNat:Int),.int .i64 m.mode,.int .i64 (u:Int),.int .i64 (g:Int),.int .i64 (t:Int),.slice p bl c] wx h1)
  case first =>
   cases lp with
   | false =>
     have EH:HeadV.mk m.path m.target m.kind m.mode (u:Int) (g:Int) (t:Int) (bl:Int) false=h1:=by rw [← HE1.out];rfl
     have ES:S1=[]:=by rw [← HD1.out];rfl
     go_wp2
     go_meet
     exact ⟨by rw [ES];rfl,by rw [← EH];exact HP2.out⟩
   | true =>
     go_wp2_with fail
     refine (line_any (keyT 4) m.path _ (by have:=HTN.out.1;have:=HTN.out.2;simp [keyT];omega)).mono ?_
     rintro e w3 ⟨rfl,hb3⟩;have HP3:=Lib.hid (HP2.out.below hb3);clear hb3;have b9:=HP3.out.hd;have z0:=b9.cell 0;have fz0:=b9.frozen 0;simp only [headC,List.getElem?_toArray,List.getElem?_cons_zero] at z0;clear b9;have ES:S1=lineD (keyT 4) m.path:=by rw [← HD1.out];rfl
     obtain ⟨A,hA⟩:∃ A:ByteArray,str (lineD (keyT 4) m.path)=A:=⟨_,rfl⟩;obtain ⟨ka,hka⟩:∃ ka,A.size=ka:=⟨_,rfl⟩;have hkl:(lineD (keyT 4) m.path).length=ka:=by rw [← hka,← hA,str_size]
     have hsum:ka≤9223372036854775807:=by
      have h1:=congrArg List.length ES;rw [hkl] at h1;have h2:=HSL.out;have h3:=HS5L.out;omega
     have hsum0:0+ka≤9223372036854775807:=by omega
     rw [hA];clear hkl;have HES:=Lib.hid ES;have HA:=Lib.hid hA;clear ES hA
     go_wp2
     go_meet
     exact ⟨by rw [HES.out,← HA.out];exact congrArg Value.string (str_app [] _),HP3.out.set 0 _ (by
      have h9:=HP3.out.hd.set 0 (.string (str longN)) (by show 0 < 9;decide)
      rw [show h1=HeadV.mk longN m.target m.kind m.mode (u:Int) (g:Int) (t:Int) (bl:Int) false from by rw [← HE1.out];rfl]
      exact h9)⟩
  case rest =>
   obtain ⟨rfl,hP⟩:=hcut;have HP4:=Lib.hid hP;clear hP y0
   go_upto_region 7 with fail
   have y1:=HP4.out.mem.cell 1;simp only [List.getElem?_toArray,List.getElem?_cons_zero,List.getElem?_cons_succ] at y1
   go_cut [56] (fun s56 wx => s56=.bool ll∧wx=wc)
   case first =>
    have hs:(str m.target).size=m.target.length:=str_size _
    by_cases hl:100 < m.target.length
    ·have hl2:(100:Int) < (m.target.length:Int):=by omega
     have El:ll=true:=by rw [HLL.out];simp [hl]
     go_wp2
     go_meet
     exact ⟨by rw [El],rfl⟩
    ·have hl2:¬ (100:Int) < (m.target.length:Int):=by omega
     have El:ll=!f1:=by rw [HLL.out];simp [hl]
     go_wp2_with fail
     refine (rfits_any (str m.target) _ (by rw [str_size];have:=HTN.out.2;omega)).mono ?_
     rw [str_data,HF1.out];rintro e w3 ⟨rfl,rfl⟩
     go_wp2
     go_meet
     exact ⟨by rw [El],rfl⟩
   case rest =>
    obtain ⟨rfl,rfl⟩:=hcut
    go_upto_if 56 with fail
    go_cut [4] (fun s4 wx => s4=.string (str S2)∧PM w #[.string (str m.path),.string (str m.target),.int .u8 (m.kind.toNat:Int),.int .i64 m.mode,.int .i64 (u:Int),.int .i64 (g:Int),.int .i64 (t:Int),.slice p bl c] wx h2)
    case first =>
     cases ll with
     | false =>
       have EH:h1=h2:=by rw [← HE2.out,← HE1.out];rfl
       have ES:S2=S1:=by rw [← HD2.out];simp
       go_wp2
       go_meet
       exact ⟨by rw [ES],by rw [← EH];exact HP4.out⟩
     | true =>
       go_wp2_with fail
       refine (line_any (keyT 5) m.target _ (by have:=HTN.out.1;have:=HTN.out.2;simp [keyT];omega)).mono ?_
       rintro e w3 ⟨rfl,hb3⟩;have HP3:=Lib.hid (HP4.out.below hb3);clear hb3;have b9:=HP3.out.hd;have z1:=b9.cell 1;have fz1:=b9.frozen 1;simp only [headC,List.getElem?_toArray,List.getElem?_cons_zero,List.getElem?_cons_succ] at z1;clear b9;have ES:S2=S1++lineD (keyT 5) m.target:=by rw [← HD2.out];rfl
       obtain ⟨A,hA⟩:∃ A:ByteArray,str (lineD (keyT 5) m.target)=A:=⟨_,rfl⟩;obtain ⟨ka,hka⟩:∃ ka,A.size=ka:=⟨_,rfl⟩;have hkl:(lineD (keyT 5) m.target).length=ka:=by rw [← hka,← hA,str_size]
       obtain ⟨Q,hQ⟩:∃ Q:ByteArray,str S1=Q:=⟨_,rfl⟩;obtain ⟨kq,hkq⟩:∃ kq,Q.size=kq:=⟨_,rfl⟩;have hql:S1.length=kq:=by rw [← hkq,← hQ,str_size]
       have hsum:kq+ka≤9223372036854775807:=by
        have h1:=congrArg List.length ES;rw [List.length_append,hql,hkl] at h1;have h2:=HSL.out;have h3:=HS5L.out;omega
       rw [hA,hQ];clear hkl hql;have HES:=Lib.hid ES;have HA:=Lib.hid hA;have HQ:=Lib.hid hQ;clear ES hA hQ
       go_wp2
       go_meet
       exact ⟨by rw [HES.out,← HA.out,← HQ.out];exact congrArg Value.string (str_app S1 _),HP3.out.set 1 _ (by
        have h9:=HP3.out.hd.set 1 (.string (str longN)) (by show 1 < 9;decide)
        rw [show h2 = { h1 with link:=longN } from by rw [← HE2.out];rfl]
        exact h9)⟩
    case rest =>
     obtain ⟨rfl,hP⟩:=hcut;have HP5:=Lib.hid hP;clear hP;have y4:=HP5.out.mem.cell 4;simp only [List.getElem?_toArray,List.getElem?_cons_zero,List.getElem?_cons_succ] at y4
     go_upto_if 67 with fail
     go_cut [4] (fun s4 wx => s4=.string (str S3)∧PM w #[.string (str m.path),.string (str m.target),.int .u8 (m.kind.toNat:Int),.int .i64 m.mode,.int .i64 (u:Int),.int .i64 (g:Int),.int .i64 (t:Int),.slice p bl c] wx h3)
     case first =>
      by_cases hx:2097151 < u
      ·have hx2:(2097151:Int) < (u:Int):=by omega
       go_wp2_with fail
       refine (dec_any u _ HUN.out.1).mono ?_
       rintro e wq ⟨rfl,hbq⟩;have HPQ:=Lib.hid (HP5.out.below hbq);clear hbq
       go_wp2_with fail
       refine (line_any (keyT 0) (decL u) _ (by have:=HTN.out.1;have:=HTN.out.2;have:=dec_le u 18 (by omega) HUN.out.1;simp [keyT];omega)).mono ?_
       rintro e w3 ⟨rfl,hb3⟩;have HP3:=Lib.hid (HPQ.out.below hb3);clear hb3;have b9:=HP3.out.hd;have z4:=b9.cell 4;have fz4:=b9.frozen 4;simp only [headC,List.getElem?_toArray,List.getElem?_cons_zero,List.getElem?_cons_succ] at z4;clear b9;have ES:S3=S2++lineD (keyT 0) (decL u):=by rw [← HD3.out];simp [hx]
       obtain ⟨A,hA⟩:∃ A:ByteArray,str (lineD (keyT 0) (decL u))=A:=⟨_,rfl⟩;obtain ⟨ka,hka⟩:∃ ka,A.size=ka:=⟨_,rfl⟩;have hkl:(lineD (keyT 0) (decL u)).length=ka:=by rw [← hka,← hA,str_size]
       obtain ⟨Q,hQ⟩:∃ Q:ByteArray,str S2=Q:=⟨_,rfl⟩;obtain ⟨kq,hkq⟩:∃ kq,Q.size=kq:=⟨_,rfl⟩;have hql:S2.length=kq:=by rw [← hkq,← hQ,str_size]
       have hsum:kq+ka≤9223372036854775807:=by
        have h1:=congrArg List.length ES;rw [List.length_append,hql,hkl] at h1;have h2:=HSL.out;have h3:=HS5L.out;omega
       rw [hA,hQ];clear hkl hql;have HES:=Lib.hid ES;have HA:=Lib.hid hA;have HQ:=Lib.hid hQ;clear ES hA hQ
       go_wp2
       go_meet
       exact ⟨by rw [HES.out,← HA.out,← HQ.out];exact congrArg Value.string (str_app S2 _),HP3.out.set 4 _ (by
        have h9:=HP3.out.hd.set 4 (.int .i64 0) (by show 4 < 9;decide)
        rw [show h3 = { h2 with uid:=0 } from by rw [← HE3.out];simp [hx]]
        exact h9)⟩
      ·have hx2:¬ (2097151:Int) < (u:Int):=by omega
       have EH:h3=h2:=by
        rw [← HE3.out,if_neg hx,← HE2.out,← HE1.out]
       have ES:S3=S2:=by rw [← HD3.out];simp [hx]
       go_wp2
       go_meet
       exact ⟨by rw [ES],by rw [EH];exact HP5.out⟩
     case rest =>
      obtain ⟨rfl,hP⟩:=hcut;have HP6:=Lib.hid hP;clear hP;have y5:=HP6.out.mem.cell 5;simp only [List.getElem?_toArray,List.getElem?_cons_zero,List.getElem?_cons_succ] at y5
      go_upto_if 81 with fail
      go_cut [4] (fun s4 wx => s4=.string (str S4)∧PM w #[.string (str m.path),.string (str m.target),.int .u8 (m.kind.toNat:Int),.int .i64 m.mode,.int .i64 (u:Int),.int .i64 (g:Int),.int .i64 (t:Int),.slice p bl c] wx h4)
      case first =>
       by_cases hx:2097151 < g
       ·have hx2:(2097151:Int) < (g:Int):=by omega
        go_wp2_with fail
        refine (dec_any g _ HUN.out.2.1).mono ?_
        rintro e wq ⟨rfl,hbq⟩;have HPQ:=Lib.hid (HP6.out.below hbq);clear hbq
        go_wp2_with fail
        refine (line_any (keyT 1) (decL g) _ (by have:=HTN.out.1;have:=HTN.out.2;have:=dec_le g 18 (by omega) HUN.out.2.1;simp [keyT];omega)).mono ?_
        rintro e w3 ⟨rfl,hb3⟩;have HP3:=Lib.hid (HPQ.out.below hb3);clear hb3;have b9:=HP3.out.hd;have z5:=b9.cell 5;have fz5:=b9.frozen 5;simp only [headC,List.getElem?_toArray,List.getElem?_cons_zero,List.getElem?_cons_succ] at z5;clear b9;have ES:S4=S3++lineD (keyT 1) (decL g):=by rw [← HD4.out];simp [hx]
        obtain ⟨A,hA⟩:∃ A:ByteArray,str (lineD (keyT 1) (decL g))=A:=⟨_,rfl⟩;obtain ⟨ka,hka⟩:∃ ka,A.size=ka:=⟨_,rfl⟩;have hkl:(lineD (keyT 1) (decL g)).length=ka:=by rw [← hka,← hA,str_size]
        obtain ⟨Q,hQ⟩:∃ Q:ByteArray,str S3=Q:=⟨_,rfl⟩;obtain ⟨kq,hkq⟩:∃ kq,Q.size=kq:=⟨_,rfl⟩;have hql:S3.length=kq:=by rw [← hkq,← hQ,str_size]
        have hsum:kq+ka≤9223372036854775807:=by
         have h1:=congrArg List.length ES;rw [List.length_append,hql,hkl] at h1;have h2:=HSL.out;have h3:=HS5L.out;omega
        rw [hA,hQ];clear hkl hql;have HES:=Lib.hid ES;have HA:=Lib.hid hA;have HQ:=Lib.hid hQ;clear ES hA hQ
        go_wp2
        go_meet
        exact ⟨by rw [HES.out,← HA.out,← HQ.out];exact congrArg Value.string (str_app S3 _),HP3.out.set 5 _ (by
         have h9:=HP3.out.hd.set 5 (.int .i64 0) (by show 5 < 9;decide)
         rw [show h4 = { h3 with gid:=0 } from by rw [← HE4.out];simp [hx]]
         exact h9)⟩
       ·have hx2:¬ (2097151:Int) < (g:Int):=by omega
        have EH:h4=h3:=by
         rw [← HE4.out,if_neg hx,← HE3.out,← HE2.out,← HE1.out]
        have ES:S4=S3:=by rw [← HD4.out];simp [hx]
        go_wp2
        go_meet
        exact ⟨by rw [ES],by rw [EH];exact HP6.out⟩
      case rest =>
       obtain ⟨rfl,hP⟩:=hcut;have HP7:=Lib.hid hP;clear hP;have y6:=HP7.out.mem.cell 6;simp only [List.getElem?_toArray,List.getElem?_cons_zero,List.getElem?_cons_succ] at y6
       go_upto_if 95 with fail
       go_cut [4] (fun s4 wx => s4=.string (str S5)∧PM w #[.string (str m.path),.string (str m.target),.int .u8 (m.kind.toNat:Int),.int .i64 m.mode,.int .i64 (u:Int),.int .i64 (g:Int),.int .i64 (t:Int),.slice p bl c] wx h5)
       case first =>
        by_cases hx:8589934591 < t
        ·have hx2:(8589934591:Int) < (t:Int):=by omega
         go_wp2_with fail
         refine (dec_any t _ HUN.out.2.2).mono ?_
         rintro e wq ⟨rfl,hbq⟩;have HPQ:=Lib.hid (HP7.out.below hbq);clear hbq
         go_wp2_with fail
         refine (line_any (keyT 2) (decL t) _ (by have:=HTN.out.1;have:=HTN.out.2;have:=dec_le t 18 (by omega) HUN.out.2.2;simp [keyT];omega)).mono ?_
         rintro e w3 ⟨rfl,hb3⟩;have HP3:=Lib.hid (HPQ.out.below hb3);clear hb3;have b9:=HP3.out.hd;have z6:=b9.cell 6;have fz6:=b9.frozen 6;simp only [headC,List.getElem?_toArray,List.getElem?_cons_zero,List.getElem?_cons_succ] at z6;clear b9;have ES:S5=S4++lineD (keyT 2) (decL t):=by rw [← HD5.out];simp [hx]
         obtain ⟨A,hA⟩:∃ A:ByteArray,str (lineD (keyT 2) (decL t))=A:=⟨_,rfl⟩;obtain ⟨ka,hka⟩:∃ ka,A.size=ka:=⟨_,rfl⟩;have hkl:(lineD (keyT 2) (decL t)).length=ka:=by rw [← hka,← hA,str_size]
         obtain ⟨Q,hQ⟩:∃ Q:ByteArray,str S4=Q:=⟨_,rfl⟩;obtain ⟨kq,hkq⟩:∃ kq,Q.size=kq:=⟨_,rfl⟩;have hql:S4.length=kq:=by rw [← hkq,← hQ,str_size]
         have hsum:kq+ka≤9223372036854775807:=by
          have h1:=congrArg List.length ES;rw [List.length_append,hql,hkl] at h1;have h2:=HSL.out;have h3:=HS5L.out;omega
         rw [hA,hQ];clear hkl hql;have HES:=Lib.hid ES;have HA:=Lib.hid hA;have HQ:=Lib.hid hQ;clear ES hA hQ
         go_wp2
         go_meet
         exact ⟨by rw [HES.out,← HA.out,← HQ.out];exact congrArg Value.string (str_app S4 _),HP3.out.set 6 _ (by
          have h9:=HP3.out.hd.set 6 (.int .i64 0) (by show 6 < 9;decide)
          rw [show h5 = { h4 with time:=0 } from by rw [← HE5.out];simp [hx]]
          exact h9)⟩
        ·have hx2:¬ (8589934591:Int) < (t:Int):=by omega
         have EH:h5=h4:=by
          rw [← HE5.out,if_neg hx,← HE4.out,← HE3.out,← HE2.out,← HE1.out]
         have ES:S5=S4:=by rw [← HD5.out];simp [hx]
         go_wp2
         go_meet
         exact ⟨by rw [ES],by rw [EH];exact HP7.out⟩
       case rest =>
        obtain ⟨rfl,hP⟩:=hcut;have HP8:=Lib.hid hP;clear hP;have hn5:(str S5).size=S5.length:=str_size S5;have he5:(str S5).toList.isEmpty=decide (S5=[]):=str_empty S5;obtain ⟨eb,heb⟩:∃ b,decide (S5=[])=b:=⟨_,rfl⟩;obtain ⟨n5,hnn⟩:∃ k,S5.length=k:=⟨_,rfl⟩;rw [heb] at he5;rw [hnn] at hn5;obtain ⟨X,hX⟩:∃ X,(if S5=[] then [] else (putR (paxH S5.length)).getD []++padB S5)=X:=⟨_,rfl⟩
        have HX:=Lib.hid hX;have HEB:=Lib.hid heb;have HN5:=Lib.hid hnn;have hn5l:n5≤1048576:=by rw [← hnn];exact HS5L.out
        clear hX heb hnn;obtain ⟨Z5,hZ5⟩:∃ Z,str S5=Z:=⟨_,rfl⟩;have HZ5:=Lib.hid hZ5;rw [hZ5] at hn5 he5 ⊢;clear hZ5
        go_upto_if 107 with fail
        go_cut [8] (fun s8 wx => OwnB wx (w.heap.size+2) s8 X.length X∧PM w #[.string (str m.path),.string (str m.target),.int .u8 (m.kind.toNat:Int),.int .i64 m.mode,.int .i64 (u:Int),.int .i64 (g:Int),.int .i64 (t:Int),.slice p bl c] wx h5)
        case first =>
         cases eb with
         | true =>
           have hs:S5=[]:=of_decide_eq_true HEB.out;have hx:X=[]:=by rw [← HX.out,if_pos hs]
           go_wp2
           go_meet
           exact ⟨by rw [hx];exact World.ownsRow_nil _ _ _ _,HP8.out⟩
         | false =>
           have hs:¬ S5=[]:=of_decide_eq_false HEB.out;obtain ⟨Hx,hx1,hx2,hx3⟩:=paxH_put (n:=n5) hn5l;have hx:X=Hx++padB S5:=by rw [← HX.out,if_neg hs,HN5.out,hx1];rfl
           have HHX:=Lib.hid (And.intro hx1 (And.intro hx2 hx));clear hs hx1 hx2 hx3 hx
           go_wp2_with fail
           refine (show Calls _ _ #[.agg #[.string ⟨#[64,112,97,120]⟩,.string ⟨#[]⟩,.int .u8 120,.int .i64 0,.int .i64 0,.int .i64 0,.int .i64 0,.int .i64 (n5:Int),.bool false]] _ (PutHPost _ (putR (paxH n5))) from rputH_any (paxH n5) (paxH_wf hn5l) (by show (4:Nat)≤_;decide) (by show (0:Nat)≤_;decide) _).mono ?_
           rintro e w3 ⟨hk3,(⟨bs,gx,hr,rfl,hrow,hge⟩ | ⟨hr,rfl⟩)⟩
           ·obtain rfl:bs=Hx:=by rw [HHX.out.1] at hr;exact (Option.some.inj hr).symm
            have HP9:=Lib.hid (HP8.out.kept hk3);have hB2:w.heap.size+2≤wc.heap.size:=by have:=HP8.out.hd.lt;omega
            have HO9:Hid (OwnB w3 (w.heap.size+2) (.slice (some ⟨gx,0,none⟩) 512 512) 512 bs):=Lib.hid (by
             have:=ownB_row hrow (Nat.le_trans hB2 hge) (by rw [HHX.out.2.1];decide)
             rw [HHX.out.2.1] at this
             exact this)
            have HB2:=Lib.hid hB2;clear hk3 hrow hge hr hB2;have hm2:Z5.size≤maxLen:=by rw [hn5];unfold maxLen;omega
            obtain ⟨hc1,hc2⟩:=str_cap w3 5 Z5 hm2;have cvb:=Lib.run_convert_string_bytes (P:=Tryz.prog) w3 9 24 5 Z5 Tryz.underlying9 Tryz.underlying24 Tryz.underlying5;have hbt:=str_bat w3 5 Z5;have hsb:=str_below w3 5 Z5;obtain ⟨w4,hw4⟩:∃ w4,bytesWorld w3 5 Z5=w4:=⟨_,rfl⟩;rw [hw4] at cvb hbt hsb;rw [hn5] at cvb hbt;have HBT:=Lib.hid hbt;have HSB:=Lib.hid hsb;have HP10:=Lib.hid (HP9.out.below hsb);have HO10:=Lib.hid (HO9.out.kept (Kept.of_below hsb noneB) (fun _ _ => id))
            clear hbt hsb hw4 hc1 hc2 hm2
            go_wp2_with fail
            refine (rpadded_any _ n5 _ S5 w4 HN5.out (by omega) (by have:=HBT.out;rw [← HZ5.out,str_data] at this;exact this)).mono ?_
            rintro e w5 ⟨v5,rfl,ho5,hk5⟩;obtain ⟨p5,c5,rfl,_,_,hb5,_,_⟩:=ho5.slice;have HP11:=Lib.hid (HP10.out.kept hk5);have HO11:=Lib.hid (HO10.out.kept hk5 (fun _ _ => id))
            have HB5:=Lib.hid hb5;have hpl5:(padB S5).length≤2000000:=by rw [padB_length,HN5.out];have:=(blocks_ge n5).2;omega
            have HPL:=Lib.hid hpl5;have hle5:w.heap.size+2≤w5.heap.size:=by have:=HP11.out.hd.lt;omega
            have HLE:=Lib.hid hle5;obtain ⟨i0,hi,hz0,hz1,hz2⟩:=info_parts infoU8;have HI:=Lib.hid hi;have HZ0:=Lib.hid hz0;have HZ1:=Lib.hid hz1;have HZ2:=Lib.hid hz2;clear ho5 hk5 hb5 cvb hpl5 hle5 hi hz0 hz1 hz2
            go_wp2_with (at_builtin;refine append_bytes rfl _ _ 24 rfl (w.heap.size+2) 5 i0 Tryz.underlying24 HI.out HZ0.out HZ1.out HZ2.out _ 512 (nums bs) rfl HO11.out p5 (padB S5).length c5 (padB S5) rfl HB5.out rfl ?d2 HLE.out ?_)
            case d2 => have:=HPL.out;omega
            intro v6 w6 hown6 hgrow6;have hk6:Kept (fun k => Value.ownBlock (.slice (some ⟨gx,0,none⟩) 512 512)=some k) w5 w6:=(Kept.refl _ w5).grown hgrow6 (fun k hk => .inr hk)
            have hgx:=(HO11.out.lt gx rfl).1
            have F:Hid (OwnB w6 (w.heap.size+2) v6 X.length X∧PM w #[.string (str m.path),.string (str m.target),.int .u8 (m.kind.toNat:Int),.int .i64 m.mode,.int .i64 (u:Int),.int .i64 (g:Int),.int .i64 (t:Int),.slice p bl c] w6 h5):=Lib.hid ⟨by
             rw [HHX.out.2.2];unfold OwnB;rw [List.length_append,HHX.out.2.1];have e:(nums (bs++padB S5)).map (Value.int .u8)=(nums bs++nums (padB S5)).map (Value.int .u8):=by unfold nums;rw [List.map_append]
             rw [e]
             first | exact hown6 | (rw [List.map_append];exact hown6),⟨HP11.out.bel.trans (hk6.below HP11.out.bel.size (fun k hk => by have h1:=Option.some.inj hk;have h1:gx=k:=h1;omega)),HP11.out.mem.keptS hk6 (fun e => by have h1:=Option.some.inj e;have h1:gx=w.heap.size:=h1;omega),HP11.out.hd.keptS hk6 (fun e => by have h1:=Option.some.inj e;have h1:gx=w.heap.size+1:=h1;omega)⟩⟩
            clear hown6 hgrow6 hk6 hgx
            go_wp2
            go_meet
            exact F.out
           ·rw [HHX.out.1] at hr
            cases hr
        case rest =>
         obtain ⟨hO,hP⟩:=hcut;have HO9:=Lib.hid hO;have HP9:=Lib.hid hP;obtain ⟨H,hh1,hh2,hh3⟩:=headM_put HG.out;rw [HH5.out] at hh1;have HHH:=Lib.hid (And.intro hh1 hh2);have hwf:=headM_wf HG.out;have htx:=headM_tx HG.out;rw [HH5.out] at hwf htx;have HWF:=Lib.hid (And.intro hwf htx);clear hO hP hh1 hh2 hh3 hwf htx hn5 he5;have b9:=HP9.out.hd;have d0:=b9.cell 0;have d1:=b9.cell 1;have d2:=b9.cell 2;have d3:=b9.cell 3;have d4:=b9.cell 4;have d5:=b9.cell 5;have d6:=b9.cell 6;have d7:=b9.cell 7;have d8:=b9.cell 8;simp only [headC,List.getElem?_toArray,List.getElem?_cons_zero,List.getElem?_cons_succ] at d0 d1 d2 d3 d4 d5 d6 d7 d8
         clear b9
         go_wp2_with fail
         refine (rputH_any h5 HWF.out.1 HWF.out.2.1 HWF.out.2.2 _).mono ?_
         rintro e w3 ⟨hk3,(⟨bs,gy,hr,rfl,hrow,hge⟩ | ⟨hr,rfl⟩)⟩
         ·obtain rfl:bs=H:=by rw [HHH.out.1] at hr;exact (Option.some.inj hr).symm
          have HP10:=Lib.hid (HP9.out.kept hk3);have HO10:=Lib.hid (HO9.out.kept hk3 (fun _ _ => id))
          have HRW:=Lib.hid hrow;have HSEP:Hid (∀ k,u8.ownBlock=some k → k≠gy):=Lib.hid (fun k hk => by have:=(HO9.out.lt k hk).2;omega)
          clear hk3 hrow hge hr d0 d1 d2 d3 d4 d5 d6 d7 d8
          go_upto_region 24 with fail
          refine wp_region_any (by kernel_rfl) (wpAny_ops (ops':=put24Ops) (by kernel_rfl) ?_)
          refine put24_region (w:=w) (w1:=w3) (w.heap.size+2) w.heap.size gy #[.string (str m.path),.string (str m.target),.int .u8 (m.kind.toNat:Int),.int .i64 m.mode,.int .i64 (u:Int),.int .i64 (g:Int),.int .i64 (t:Int),.slice p bl c] u8 X bs m.body p bl c ?a1 ?a2 ?a3 ?a4 ?a5 ?a6 ?a7 ?a8 ?a9 ?a10 ?a11 ?a12 ?a13 ?a14 ?a15 ?a16 ?a17 ?a18 ?a19 ?a20
          case a1 => exact Nat.le_refl 132
          case a2 => rfl
          case a3 => rfl
          case a4 => rfl
          case a5 => exact HP10.out.bel
          case a6 => exact HP10.out.mem
          case a7 => rfl
          case a8 => exact Nat.le_refl _
          case a9 => exact HO10.out
          case a10 => exact Nat.lt_add_of_pos_right (by decide)
          case a11 => exact HP10.out.hd.lt
          case a12 => exact Nat.le_add_right _ _
          case a13 => have:=HRW.out.bat;rw [HHH.out.2] at this;exact this
          case a14 => exact HHH.out.2
          case a15 => exact HSEP.out
          case a16 => exact HB.out
          case a17 => exact HBL.out
          case a18 => exact HBM.out
          case a19 =>
           rw [← HX.out]
           split
           ·exact Nat.zero_le _
           ·obtain ⟨Hx,hx1,hx2,_⟩:=paxH_put (n:=S5.length) HS5L.out
            rw [hx1,Option.getD_some,List.length_append,hx2,padB_length];have h1:=(blocks_ge S5.length).2;have h2:=HS5L.out;clear hn5l;omega
          intro γ w9 ho9 hb9
          have F:Hid (PadPost w (putM m) (.returned γ.v2) w9):=Lib.hid (by
           have e:putM m=(X++bs)++padB m.body:=by
            unfold putM;rw [HS5.out,HH5.out,HHH.out.1,← HX.out];simp only [Option.getD_some,List.append_assoc]
           rw [e]
           exact ⟨γ.v2,rfl,ho9.mono (Nat.le_add_right _ _),Kept.of_below hb9 noneB⟩)
          clear ho9 hb9;simp only [Exit.then]
          apply_assumption
          simp only [Act.put,List.setIfInBounds_toArray,List.set_cons_zero,List.set_cons_succ]
          go_wp2
          go_ret
          exact F.out
         ·rw [HHH.out.1] at hr
          cases hr
end Go.Proofs.YtnpkcneojilmkaaGreatDoor.Mem
end
section
namespace Go.Proofs.YtnpkcneojilmkaaGreatDoor.Mem
open Go.ChangeShapes Go.WideShapes Go.ChangeAt Go.RowKit Base Byt Txt Bk Hp Head Num Path Block Rec Go.Lib
set_option linter.unusedVariables false
set_option maxRecDepth 100000
theorem putM_len {m:MemV} (h:GoodM m):(putM m).length≤3000000:=by
 have hb:=(blocks_ge m.body.length).2;have hl:=(blocks_ge (linesD (recsM m)).length).2;have hq:=linesM_le h;have hq2:=h.body;obtain ⟨H,_,h2,_,(⟨_,e⟩ | ⟨X,_,x2,_,e⟩)⟩:=put_laid h
 ·rw [e,List.length_append,padB_length,h2];omega
 ·rw [e,List.length_append,List.length_append,List.length_append,padB_length,padB_length,h2,x2];omega
theorem putAllM_len:∀ (ms:List MemV),(∀ m ∈ ms,GoodM m) → (putAllM ms).length≤ms.length * 3000000
 | [],_ => Nat.zero_le _
 | m :: ms,h => by
   rw [putAllM_cons,List.length_append,List.length_cons];have h1:=putM_len (h m (List.mem_cons_self ..));have h2:=putAllM_len ms (fun x hx => h x (List.mem_cons_of_mem _ hx))
   omega
theorem takeP_succ (xs:List MP) (k:Nat) (h:k < xs.length):(xs.take (k+1)).map MP.m=(xs.take k).map MP.m++[(xs.getD k zeroP).m]:=by
 rw [List.take_succ_eq_append_getElem h,List.map_append,List.getD,List.getElem?_eq_getElem h];rfl
theorem getP_mem (xs:List MP) (k:Nat) (h:k < xs.length):xs.getD k zeroP ∈ xs:=by
 rw [List.getD,List.getElem?_eq_getElem h];exact List.getElem_mem h
set_option maxHeartbeats 4000000 in
theorem rarch_any (w:World) (p:Option Addr) (n c:Nat) (xs:List MP) (h:MemsAt w p n xs) (hg:∀ x ∈ xs,GoodM x.m) (hn:n≤100) :
 Calls Tryz.prog 14 #[.slice p n c] w (PadPost w (archD (xs.map MP.m))):=by
 obtain ⟨i0,hi,hz0,hz1,hz2⟩:=info_parts infoU8;have HI:=Lib.hid hi;have HZ0:=Lib.hid hz0;have HZ1:=Lib.hid hz1;have HZ2:=Lib.hid hz2;have HM:=Lib.hid h;have HL:=Lib.hid h.1;have HG:=Lib.hid hg;clear hi hz0 hz1 hz2 h hg
 go_enter Tryz.func14,Tryz.ntmps14
 go_wp2_with fail
 go_loopw [3,4] (fun o i wr => ∃ (j:Nat),j≤n∧i=.int .i64 (j:Int)∧Hid (OwnB wr w.heap.size o (putAllM ((xs.take j).map MP.m)).length (putAllM ((xs.take j).map MP.m)))∧Hid (Below w.heap.size w wr)) (fun _ i _ => n - (RowKit.intOf i).toNat)
 case atStart => exact ⟨0,Nat.zero_le _,rfl,Lib.hid (World.ownsRow_nil _ _ _ _),Lib.hid (Below.refl _ _)⟩
 case round =>
  obtain ⟨j,hj,rfl,hO,hB⟩:=hrel
  have hlen:(putAllM ((xs.take j).map MP.m)).length≤300000000:=by
   have:=putAllM_len ((xs.take j).map MP.m) (fun m hm => by
    obtain ⟨x,hx,rfl⟩:=List.mem_map.1 hm
    exact HG.out x (List.mem_of_mem_take hx))
   rw [List.length_map,List.length_take] at this;omega
  have HLEN:=Lib.hid hlen;clear hlen
  by_cases hlt:j < n
  ·have hT:=takeP_succ xs j (by rw [HL.out];exact hlt)
   have hGy:=HG.out _ (getP_mem xs j (by rw [HL.out];exact hlt))
   obtain ⟨b,o,rfl,hb,hBd,c0,c1,c2,c3,c4,c5,c6,c7⟩:=(HM.out.below hB.out).cells hlt;obtain ⟨y,hy⟩:∃ y,xs.getD j zeroP=y:=⟨_,rfl⟩;rw [hy] at hT hGy hBd c0 c1 c2 c3 c4 c5 c6 c7;rw [Nat.mul_comm] at c0 c1 c2 c3 c4 c5 c6 c7;have HT:=Lib.hid hT;have HGy:=Lib.hid hGy;have HBd:=Lib.hid hBd;have hltz:(j:Int) < (n:Int):=by omega
   clear hT hGy hBd hb hy;obtain ⟨A,hA⟩:∃ A,putAllM ((xs.take j).map MP.m)=A:=⟨_,rfl⟩;rw [hA] at hO HLEN;have HA:=Lib.hid hA;clear hA
   go_wp2_with fail
   refine (rput_any y.m y.p y.c _ HGy.out HBd.out.bat).mono ?_
   rintro e w2 ⟨v2,rfl,ho2,hk2⟩;obtain ⟨p2,q2,rfl,_,_,hb2,_,_⟩:=ho2.slice;have HB2:=Lib.hid hb2;have HO2:=Lib.hid (hO.out.kept hk2 (fun _ _ => id))
   have HK2:=Lib.hid (hB.out.trans (hk2.below hB.out.size (fun _ h => h.elim)))
   have HPL:=Lib.hid (putM_len HGy.out);clear hb2 ho2 hk2 c0 c1 c2 c3 c4 c5 c6 c7
   go_wp2_with (at_builtin;refine append_bytes rfl _ _ 24 rfl w.heap.size 5 i0 Tryz.underlying24 HI.out HZ0.out HZ1.out HZ2.out _ _ _ rfl HO2.out p2 (putM y.m).length q2 (putM y.m) rfl HB2.out rfl ?d2 ?d3 ?_)
   case d2 => have:=HPL.out;have:=HLEN.out;omega
   case d3 => exact HK2.out.size
   intro v3 w3 hown hgrow
   have F:Hid (OwnB w3 w.heap.size v3 (putAllM ((xs.take (j+1)).map MP.m)).length (putAllM ((xs.take (j+1)).map MP.m))∧Below w.heap.size w w3):=Lib.hid ⟨by
    have e:putAllM ((xs.take (j+1)).map MP.m)=A++putM y.m:=by
     rw [HT.out,putAllM_app,putAllM_cons,HA.out];simp [putAllM]
    rw [e,List.length_append];unfold OwnB;rw [show nums (A++putM y.m)=nums A++nums (putM y.m) by unfold nums;rw [List.map_append]]
    first | exact hown | (rw [List.map_append];exact hown),HK2.out.trans (((Kept.refl _ w2).grown hgrow (fun k hk => .inr hk)).below HK2.out.size (fun k hk => (HO2.out.lt k hk).1))⟩
   clear hown hgrow
   go_wp2
   go_roundw
   case rel => exact ⟨j+1,by omega,by go_num,Lib.hid F.out.1,Lib.hid F.out.2⟩
   case measure => simp [RowKit.intOf];omega
  ·obtain rfl:j=n:=by omega
   have hks:¬ ((j:Int) < (j:Int)):=by omega
   have e:xs.take j=xs:=List.take_of_length_le (by rw [HL.out];exact Nat.le_refl _)
   rw [e] at hO HLEN;clear e
   go_wp2_with (at_builtin;refine append_zeros_new rfl _ _ 24 3 rfl w.heap.size 5 i0 .i64 .i64 Tryz.underlying24 Tryz.underlying3 HI.out HZ0.out HZ1.out HZ2.out _ (putAllM (xs.map MP.m)).length (nums (putAllM (xs.map MP.m))) rfl hO.out _ 1024 rfl ?e1 ?e2 hB.out.size ?_)
   case e2 => have:=HLEN.out;omega
   intro v3 w3 hown hgrow _
   have F:Hid (PadPost w (archD (xs.map MP.m)) (.returned v3) w3):=Lib.hid (by
    refine ⟨v3,rfl,?_,Kept.of_below (hB.out.trans (((Kept.refl _ _).grown hgrow (fun k hk => .inr hk)).below hB.out.size (fun k hk => (hO.out.lt k hk).1))) noneB⟩
    rw [archD_eq,List.length_append,List.length_replicate];unfold OwnB;rw [show nums (putAllM (xs.map MP.m)++List.replicate 1024 0)=nums (putAllM (xs.map MP.m))++zs8 1024 by unfold nums;rw [List.map_append];simp [zs8]]
    first | exact hown | (rw [List.map_append];exact hown))
   clear hown hgrow
   go_wp2
   go_ret
   exact F.out
end Go.Proofs.YtnpkcneojilmkaaGreatDoor.Mem
end
section
namespace Go.Proofs.YtnpkcneojilmkaaGreatDoor.Mem
open Go.ChangeShapes Go.WideShapes Go.ChangeAt Go.RowKit Base Byt Txt Bk Hp Head Num Path Go.Lib
set_option linter.unusedVariables false
set_option maxRecDepth 100000
theorem equal_any (p q:Option Addr) (n c m d:Nat) (a b:List UInt8) (w:World) (ha:a.length=n) (hb:b.length=m) (h1:BAt w p n a) (h2:BAt w q m b) :
 Calls Tryz.prog 44 #[.slice p n c,.slice q m d] w fun e w' => e=.returned (.bool (decide (a=b)))∧w=w':=by
 have c1:(convert 24 9 (.slice p n c)).run Tryz.prog w=.ok (.string (str a)) w:=conv_at h1 ha _ _ _ Tryz.underlying24 Tryz.underlying5 Tryz.underlying9 _;have c2:(convert 24 9 (.slice q m d)).run Tryz.prog w=.ok (.string (str b)) w:=conv_at h2 hb _ _ _ Tryz.underlying24 Tryz.underlying5 Tryz.underlying9 _
 have e1:((str a).toList == (str b).toList)=decide (a=b):=by
  rw [str_toList,str_toList]
  by_cases h:a=b<;>simp [h]
 clear h1 h2
 go_enter Tryz.func44,Tryz.ntmps44
 go_wp2
 go_ret
 exact ⟨rfl,rfl⟩
theorem eqMeta_deep (a b c d a' b' c' d':Int) (n:Nat) (w:World):(Op.equalIn (n+1+1) 23 (.agg #[.int .i64 a,.int .i64 b,.int .i64 c,.int .i64 d]) (.agg #[.int .i64 a',.int .i64 b',.int .i64 c',.int .i64 d'])).run Tryz.prog w=.ok (decide (a=a'∧b=b'∧c=c'∧d=d')) w:=by
 have hM:Tryz.prog.underlying 23=some (.struct (Tryz.prog.fieldsOf 23)):=by kernel_rfl
 have pM:Tryz.prog.stoodInHeld 23=false:=by kernel_rfl
 rw [run_equalIn_agg (P:=Tryz.prog) w (n+1) 23 _ _ hM pM];clear hM pM;simp only [Program.fieldsOf,Tryz.underlying23]
 go_simp
 by_cases h4:a=a'<;>by_cases h5:b=b'<;>by_cases h6:c=c'<;>by_cases h7:d=d'<;>simp [h4,h5,h6,h7]
theorem eqMeta (a b c d a' b' c' d':Int) (w:World):(binOp .eql 23 (.agg #[.int .i64 a,.int .i64 b,.int .i64 c,.int .i64 d]) (.agg #[.int .i64 a',.int .i64 b',.int .i64 c',.int .i64 d'])).run Tryz.prog w=.ok (.bool (decide (a=a'∧b=b'∧c=c'∧d=d'))) w:=by
 rw [run_eql_struct,show (10000:Nat)=9998+1+1 from rfl,eqMeta_deep]
 rfl
theorem same_is (a b:MemV):decide (a=b)=(decide (a.path=b.path) && (decide (a.target=b.target) && ((((a.kind.toNat:Int)) == (b.kind.toNat:Int)) && (decide (a.mode=b.mode∧a.uid=b.uid∧a.gid=b.gid∧a.time=b.time) && decide (a.body=b.body))))):=by
 have s2:(((a.kind.toNat:Int)) == (b.kind.toNat:Int))=decide (a.kind=b.kind):=by
  by_cases h:a.kind=b.kind
  ·simp [h]
  ·have:¬ a.kind.toNat=b.kind.toNat:=fun hh => h (UInt8.toNat.inj hh)
   simp only [h,decide_false,beq_eq_false_iff_ne,ne_eq];omega
 rw [s2,Bool.eq_iff_iff];simp only [decide_eq_true_eq,Bool.and_eq_true];constructor
 ·rintro rfl;simp
 ·rintro ⟨h1,h2,h3,⟨h4,h5,h6,h7⟩,h8⟩
  cases a;cases b;simp_all
set_option maxHeartbeats 4000000 in
theorem same_any (a b:MemV) (p q:Option Addr) (c d:Nat) (w:World) (h1:BAt w p a.body.length a.body) (h2:BAt w q b.body.length b.body) :
 Calls Tryz.prog 25 #[.agg (memC a p c),.agg (memC b q d)] w fun e w' => e=.returned (.bool (decide (a=b)))∧Below w.heap.size w w':=by
 rw [same_is];unfold memC;obtain ⟨n,hn⟩:∃ n,a.body.length=n:=⟨_,rfl⟩;obtain ⟨m,hm⟩:∃ m,b.body.length=m:=⟨_,rfl⟩;obtain ⟨ka,hka⟩:∃ k:Int,(a.kind.toNat:Int)=k:=⟨_,rfl⟩;obtain ⟨kb,hkb⟩:∃ k:Int,(b.kind.toNat:Int)=k:=⟨_,rfl⟩;rw [hn] at h1;rw [hm] at h2;rw [hn,hm,hka,hkb]
 have e1:((str a.path).toList == (str b.path).toList)=decide (a.path=b.path):=by
  rw [str_toList,str_toList]
  by_cases h:a.path=b.path<;>simp [h]
 have e2:((str a.target).toList == (str b.target).toList)=decide (a.target=b.target):=by
  rw [str_toList,str_toList]
  by_cases h:a.target=b.target<;>simp [h]
 have e4:=fun w => eqMeta a.mode a.uid a.gid a.time b.mode b.uid b.gid b.time w
 obtain ⟨x1,hx1⟩:∃ x,decide (a.path=b.path)=x:=⟨_,rfl⟩;obtain ⟨x2,hx2⟩:∃ x,decide (a.target=b.target)=x:=⟨_,rfl⟩;obtain ⟨x3,e3⟩:∃ x,(ka == kb)=x:=⟨_,rfl⟩;obtain ⟨x4,hx4⟩:∃ x,decide (a.mode=b.mode∧a.uid=b.uid∧a.gid=b.gid∧a.time=b.time)=x:=⟨_,rfl⟩;obtain ⟨x5,hx5⟩:∃ x,decide (a.body=b.body)=x:=⟨_,rfl⟩;rw [hx1] at e1;rw [hx2] at e2;simp only [hx4] at e4;rw [hx1,hx2,e3,hx4,hx5];have HX5:=Lib.hid hx5;have HL:=Lib.hid (And.intro hn hm);clear hx1 hx2 hx4 hx5 hn hm hka hkb;obtain ⟨W2,hW2⟩:∃ W2,(w.alloc (.cells #[.string (str a.path),.string (str a.target),.int .u8 ka,.int .i64 a.mode,.int .i64 a.uid,.int .i64 a.gid,.int .i64 a.time,.slice p n c] 26)).alloc (.cells #[.string (str b.path),.string (str b.target),.int .u8 kb,.int .i64 b.mode,.int .i64 b.uid,.int .i64 b.gid,.int .i64 b.time,.slice q m d] 26)=W2:=⟨_,rfl⟩
 have hB:Below w.heap.size w W2:=by rw [← hW2];exact ((Below.refl w.heap.size w).alloc (Nat.le_refl _) _).alloc (by simp) _
 have HB:=Lib.hid hB;have HA:=Lib.hid (h1.below hB);have HBB:=Lib.hid (h2.below hB);have hX:Blk W2 w.heap.size 26 #[.string (str a.path),.string (str a.target),.int .u8 ka,.int .i64 a.mode,.int .i64 a.uid,.int .i64 a.gid,.int .i64 a.time,.slice p n c]:=by rw [← hW2];exact (Blk.new w _ _).alloc _
 have hY:Blk W2 (w.heap.size+1) 26 #[.string (str b.path),.string (str b.target),.int .u8 kb,.int .i64 b.mode,.int .i64 b.uid,.int .i64 b.gid,.int .i64 b.time,.slice q m d]:=by
  have:=Blk.new (w.alloc (.cells #[.string (str a.path),.string (str a.target),.int .u8 ka,.int .i64 a.mode,.int .i64 a.uid,.int .i64 a.gid,.int .i64 a.time,.slice p n c] 26)) 26 #[.string (str b.path),.string (str b.target),.int .u8 kb,.int .i64 b.mode,.int .i64 b.uid,.int .i64 b.gid,.int .i64 b.time,.slice q m d];rw [World.size_alloc] at this;rw [← hW2];exact this
 have c0:=hX.cell 0;have d0:=hY.cell 0;have c1:=hX.cell 1;have d1:=hY.cell 1;have c2:=hX.cell 2;have d2:=hY.cell 2;have c3:=hX.cell 3;have d3:=hY.cell 3;have c4:=hX.cell 4;have d4:=hY.cell 4;have c5:=hX.cell 5;have d5:=hY.cell 5;have c6:=hX.cell 6;have d6:=hY.cell 6;have c7:=hX.cell 7;have d7:=hY.cell 7;simp only [List.getElem?_toArray,List.getElem?_cons_zero,List.getElem?_cons_succ] at c0 d0 c1 d1 c2 d2 c3 d3 c4 d4 c5 d5 c6 d6 c7 d7;clear hX hY hB h1 h2
 cases x1 with
 | false =>
   go_enter Tryz.func25,Tryz.ntmps25
   go_upto_region 1 with fail
   clear hW2
   go_wp2
   go_ret
   exact ⟨rfl,HB.out⟩
 | true =>
   cases x2 with
   | false =>
     go_enter Tryz.func25,Tryz.ntmps25
     go_upto_region 1 with fail
     clear hW2
     go_wp2
     go_ret
     exact ⟨rfl,HB.out⟩
   | true =>
     cases x3 with
     | false =>
       go_enter Tryz.func25,Tryz.ntmps25
       go_upto_region 1 with fail
       clear hW2
       go_wp2
       go_ret
       exact ⟨rfl,HB.out⟩
     | true =>
       cases x4 with
       | false =>
         go_enter Tryz.func25,Tryz.ntmps25
         go_upto_region 1 with fail
         clear hW2
         go_wp2
         go_ret
         exact ⟨rfl,HB.out⟩
       | true =>
         go_enter Tryz.func25,Tryz.ntmps25
         go_upto_region 1 with fail
         clear hW2
         go_wp2_with fail
         refine (equal_any p q n c m d a.body b.body W2 HL.out.1 HL.out.2 HA.out HBB.out).mono ?_
         rw [HX5.out];rintro e w3 ⟨rfl,rfl⟩
         go_wp2
         go_ret
         exact ⟨rfl,HB.out⟩
set_option maxHeartbeats 4000000 in
theorem rsame_any (a b:MemV) (p q:Option Addr) (c d:Nat) (w:World) (h1:BAt w p a.body.length a.body) (h2:BAt w q b.body.length b.body) :
 Calls Tryz.prog 16 #[.agg (memC a p c),.agg (memC b q d)] w fun e w' => e=.returned (.bool (decide (a=b)))∧Below w.heap.size w w':=by
 rw [same_is];unfold memC;obtain ⟨n,hn⟩:∃ n,a.body.length=n:=⟨_,rfl⟩;obtain ⟨m,hm⟩:∃ m,b.body.length=m:=⟨_,rfl⟩;obtain ⟨ka,hka⟩:∃ k:Int,(a.kind.toNat:Int)=k:=⟨_,rfl⟩;obtain ⟨kb,hkb⟩:∃ k:Int,(b.kind.toNat:Int)=k:=⟨_,rfl⟩;rw [hn] at h1;rw [hm] at h2;rw [hn,hm,hka,hkb]
 have e1:((str a.path).toList == (str b.path).toList)=decide (a.path=b.path):=by
  rw [str_toList,str_toList]
  by_cases h:a.path=b.path<;>simp [h]
 have e2:((str a.target).toList == (str b.target).toList)=decide (a.target=b.target):=by
  rw [str_toList,str_toList]
  by_cases h:a.target=b.target<;>simp [h]
 have e4:=fun w => eqMeta a.mode a.uid a.gid a.time b.mode b.uid b.gid b.time w
 obtain ⟨x1,hx1⟩:∃ x,decide (a.path=b.path)=x:=⟨_,rfl⟩;obtain ⟨x2,hx2⟩:∃ x,decide (a.target=b.target)=x:=⟨_,rfl⟩;obtain ⟨x3,e3⟩:∃ x,(ka == kb)=x:=⟨_,rfl⟩;obtain ⟨x4,hx4⟩:∃ x,decide (a.mode=b.mode∧a.uid=b.uid∧a.gid=b.gid∧a.time=b.time)=x:=⟨_,rfl⟩;obtain ⟨x5,hx5⟩:∃ x,decide (a.body=b.body)=x:=⟨_,rfl⟩;rw [hx1] at e1;rw [hx2] at e2;simp only [hx4] at e4;rw [hx1,hx2,e3,hx4,hx5];have HX5:=Lib.hid hx5;have HL:=Lib.hid (And.intro hn hm);clear hx1 hx2 hx4 hx5 hn hm hka hkb;obtain ⟨W2,hW2⟩:∃ W2,(w.alloc (.cells #[.string (str a.path),.string (str a.target),.int .u8 ka,.int .i64 a.mode,.int .i64 a.uid,.int .i64 a.gid,.int .i64 a.time,.slice p n c] 26)).alloc (.cells #[.string (str b.path),.string (str b.target),.int .u8 kb,.int .i64 b.mode,.int .i64 b.uid,.int .i64 b.gid,.int .i64 b.time,.slice q m d] 26)=W2:=⟨_,rfl⟩
 have hB:Below w.heap.size w W2:=by rw [← hW2];exact ((Below.refl w.heap.size w).alloc (Nat.le_refl _) _).alloc (by simp) _
 have HB:=Lib.hid hB;have HA:=Lib.hid (h1.below hB);have HBB:=Lib.hid (h2.below hB);have hX:Blk W2 w.heap.size 26 #[.string (str a.path),.string (str a.target),.int .u8 ka,.int .i64 a.mode,.int .i64 a.uid,.int .i64 a.gid,.int .i64 a.time,.slice p n c]:=by rw [← hW2];exact (Blk.new w _ _).alloc _
 have hY:Blk W2 (w.heap.size+1) 26 #[.string (str b.path),.string (str b.target),.int .u8 kb,.int .i64 b.mode,.int .i64 b.uid,.int .i64 b.gid,.int .i64 b.time,.slice q m d]:=by
  have:=Blk.new (w.alloc (.cells #[.string (str a.path),.string (str a.target),.int .u8 ka,.int .i64 a.mode,.int .i64 a.uid,.int .i64 a.gid,.int .i64 a.time,.slice p n c] 26)) 26 #[.string (str b.path),.string (str b.target),.int .u8 kb,.int .i64 b.mode,.int .i64 b.uid,.int .i64 b.gid,.int .i64 b.time,.slice q m d];rw [World.size_alloc] at this;rw [← hW2];exact this
 have c0:=hX.cell 0;have d0:=hY.cell 0;have c1:=hX.cell 1;have d1:=hY.cell 1;have c2:=hX.cell 2;have d2:=hY.cell 2;have c3:=hX.cell 3;have d3:=hY.cell 3;have c4:=hX.cell 4;have d4:=hY.cell 4;have c5:=hX.cell 5;have d5:=hY.cell 5;have c6:=hX.cell 6;have d6:=hY.cell 6;have c7:=hX.cell 7;have d7:=hY.cell 7;simp only [List.getElem?_toArray,List.getElem?_cons_zero,List.getElem?_cons_succ] at c0 d0 c1 d1 c2 d2 c3 d3 c4 d4 c5 d5 c6 d6 c7 d7;clear hX hY hB h1 h2
 cases x1 with
 | false =>
   go_enter Tryz.func16,Tryz.ntmps16
   go_upto_region 1 with fail
   clear hW2
   go_wp2
   go_ret
   exact ⟨rfl,HB.out⟩
 | true =>
   cases x2 with
   | false =>
     go_enter Tryz.func16,Tryz.ntmps16
     go_upto_region 1 with fail
     clear hW2
     go_wp2
     go_ret
     exact ⟨rfl,HB.out⟩
   | true =>
     cases x3 with
     | false =>
       go_enter Tryz.func16,Tryz.ntmps16
       go_upto_region 1 with fail
       clear hW2
       go_wp2
       go_ret
       exact ⟨rfl,HB.out⟩
     | true =>
       cases x4 with
       | false =>
         go_enter Tryz.func16,Tryz.ntmps16
         go_upto_region 1 with fail
         clear hW2
         go_wp2
         go_ret
         exact ⟨rfl,HB.out⟩
       | true =>
         have v1:(convert 24 9 (.slice p n c)).run Tryz.prog W2=.ok (.string (str a.body)) W2:=conv_at HA.out HL.out.1 _ _ _ Tryz.underlying24 Tryz.underlying5 Tryz.underlying9 _;have v2:(convert 24 9 (.slice q m d)).run Tryz.prog W2=.ok (.string (str b.body)) W2:=conv_at HBB.out HL.out.2 _ _ _ Tryz.underlying24 Tryz.underlying5 Tryz.underlying9 _
         have e5:((str a.body).toList == (str b.body).toList)=x5:=by
          rw [← HX5.out,str_toList,str_toList]
          by_cases h:a.body=b.body<;>simp [h]
         go_enter Tryz.func16,Tryz.ntmps16
         go_upto_region 1 with fail
         clear hW2
         go_wp2
         go_ret
         exact ⟨rfl,HB.out⟩
end Go.Proofs.YtnpkcneojilmkaaGreatDoor.Mem
end
section
namespace Go.Proofs.YtnpkcneojilmkaaGreatDoor.Rec
open Go.ChangeShapes Go.WideShapes Go.ChangeAt Go.RowKit Go.Shelf Base Byt Txt Path Go.Lib
set_option linter.unusedVariables false
set_option maxRecDepth 100000
theorem recRight_any (l:List UInt8) (w:World) (hm:l.length≤1000000000000) (hT:Tabs w) :
 Calls Tryz.prog 109 #[.string (str l)] w fun e w' => e=.returned (.bool (textD l))∧Below w.heap.size w w':=by
 have hT1:=target_any l w hm hT;obtain ⟨r,hr⟩:∃ r,targetD 9 6 l=r:=⟨_,rfl⟩
 have hne:(r != 9)=textD l:=by
  rw [← hr];unfold targetD
  cases textD l with
  | false => rfl
  | true =>
    rw [if_neg (by simp)]
    split<;>rfl
 rw [hr] at hT1;clear hT hm hr
 cases ht:textD l with
 | false =>
   rw [ht] at hne
   go_enter Tryz.func109,Tryz.ntmps109
   go_wp2_with (go_at_call 99;refine hT1.mono ?_;rintro e w1 ⟨rfl,hb⟩)
   go_ret
   exact ⟨rfl,hb⟩
 | true =>
   rw [ht] at hne
   go_enter Tryz.func109,Tryz.ntmps109
   go_wp2_with (go_at_call 99;refine hT1.mono ?_;rintro e w1 ⟨rfl,hb⟩)
   go_ret
   exact ⟨rfl,hb⟩
def cutQ (l:List UInt8):List UInt8 × List UInt8 × Bool:=
 if 0≤Lib.indexByte l 61 then (l.take (Lib.indexByte l 61).toNat,l.drop ((Lib.indexByte l 61).toNat+1),true) else (l,[],false)
theorem slCutQ_any (l:List UInt8) (w:World) (hm:l.length≤1000000000000) :
 Calls Tryz.prog 141 #[.string (str l),.string ⟨#[61]⟩] w fun e w' => e=.returned (.tuple #[.string (str (cutQ l).1),.string (str (cutQ l).2.1),.bool (cutQ l).2.2]) ∧ ∃ n,w'=w.drewN n:=by
 have hidx:=Any.stringslite_Index_one Tryz.laysIndex (str l) 61 w;rw [str_data] at hidx;have hs:(str l).size=l.length:=str_size l;unfold cutQ
 by_cases h:0≤Lib.indexByte l 61
 ·obtain ⟨k,hk⟩:∃ k:Nat,Lib.indexByte l 61=k:=⟨(Lib.indexByte l 61).toNat,by omega⟩
  have hlt:=(List.getElem?_eq_some_iff.1 (Lib.indexByte_some hk).1).1;rw [if_pos h,hk,Int.toNat_natCast];rw [hk] at hidx;clear h hk;simp only;have e1:(str l).extract 0 k=str (l.take k):=str_take l k;have e2:(str l).extract (k+1) (str l).size=str (l.drop (k+1)):=str_drop l (k+1) _ hs;rw [← e1,← e2];have c1:(0:Int)≤(k:Int):=by omega
  have c2:(k:Int)≤((str l).size:Int):=by omega
  have c3:(0:Int)≤(k:Int)+1:=by omega
  have c4:(k:Int)+1≤((str l).size:Int):=by omega
  have c5:((str l).size:Int)≤1000000000000:=by omega
  clear e1 e2;have mixed:Tryz.prog.follows .mixedOrders=true:=by kernel_rfl
  go_enter Tryz.func141,Tryz.ntmps141
  go_wp2_with (go_at_call 156;refine hidx.mono ?_;rintro e w' ⟨rfl,rfl⟩)
  go_region_o
  go_wp2
  go_ret3
  exact ⟨rfl,1,rfl⟩
 ·rw [if_neg h]
  have hn:Lib.indexByte l 61 = -1:=by have:=Lib.indexByte_ge l 61;omega
  rw [hn] at hidx;clear h hn
  go_enter Tryz.func141,Tryz.ntmps141
  go_wp2_with (go_at_call 156;refine hidx.mono ?_;rintro e w' ⟨rfl,rfl⟩)
  go_ret3
  exact ⟨rfl,0,rfl⟩
theorem cutQ_any (l:List UInt8) (w:World) (hm:l.length≤1000000000000) :
 Calls Tryz.prog 108 #[.string (str l),.string ⟨#[61]⟩] w fun e w' => e=.returned (.tuple #[.string (str (cutQ l).1),.string (str (cutQ l).2.1),.bool (cutQ l).2.2]) ∧ ∃ n,w'=w.drewN n:=by
 have hc:=slCutQ_any l w hm
 go_enter Tryz.func108,Tryz.ntmps108
 go_wp2_with (go_at_call 141;refine hc.mono ?_;rintro e w' ⟨rfl,n,rfl⟩)
 go_ret3
 exact ⟨rfl,n,rfl⟩
end Go.Proofs.YtnpkcneojilmkaaGreatDoor.Rec
end
