/- Texts of this seat, merged: what the proof reaches. -/
import Derived.Test.YtfpoipamioaklaaStoreNoneX7
import Derived.Test.YtfpoipamioaklaaStoreNoneX6
import Derived.Deep.DeepCutAuto
import Derived.Deep.RegionLaw
import Derived.BigQuiet
import Derived.WalkSpells
import Derived.Test.YtfpoipamioaklaaStoreNoneX9
import Derived.Test.YtfpoipamioaklaaStoreNoneX8
namespace Go.Proofs.Ytfpoipamioaklaa
namespace Base
end Base
namespace Bk
end Bk
namespace Block
end Block
namespace Byt
end Byt
namespace Mk
end Mk
namespace Sto
end Sto
namespace Txt
end Txt
end Go.Proofs.Ytfpoipamioaklaa
section
namespace Go.Proofs.Ytfpoipamioaklaa.Sto
open Go.ChangeShapes Go.WideShapes Go.ChangeAt Go.RowKit Base Byt Txt Bk Mk Block Go.Lib
set_option linter.unusedVariables false
set_option maxRecDepth 100000
def FailP (w:World) (g:Nat) (M:SM) (A F:Nat) (v:Int → Value) (e:Ending) (w':World):Prop:=
 e=.returned (.bool (decide ((M.writes:Int) ∈ M.fails)))∧SstD w' g { M with writes:=M.writes+1 } A F v∧Kept (oneB g) w w'
set_option maxHeartbeats 8000000 in
theorem sstFail_any {w:World} {g:Nat} {M:SM} {A F:Nat} {v:Int → Value} (h:SstD w g M A F v) (hs:SmallS M):Calls Try.prog 20 #[ptrS g] w (FailP w g M A F v):=by
 obtain ⟨T,hT⟩:∃ T:Bool,decide ((M.writes:Int) ∈ M.fails)=T:=⟨_,rfl⟩;obtain ⟨V,hV⟩:∃ V,M.writes=V:=⟨_,rfl⟩
 have hlk:∀ w',Kept noneB w w' → (Instr.lookup 51 (.map (some F)) (.int .i64 (V:Int)) true).run Try.prog w'=.ok (.tuple #[.agg #[],.bool T]) w':=fun w' hk => by
  have h2:=(h.none_ hk).look_fails (V:Int);have e1:(failsV M.fails (V:Int)).getD (.agg #[])=.agg #[]:=by unfold failsV;split<;>rfl
  have e2:(failsV M.fails (V:Int)).isSome=T:=by
   rw [← hT,hV];unfold failsV
   by_cases hh:(V:Int) ∈ M.fails
   ·rw [if_pos hh,decide_eq_true hh];rfl
   ·rw [if_neg hh,decide_eq_false hh];rfl
  rw [e1,e2] at h2;exact h2
 have c3:=h.obj.cell 3;have c4:=h.obj.cell 4;simp only [List.getElem?_toArray,List.getElem?_cons_zero,List.getElem?_cons_succ] at c3 c4;rw [hV] at c4;have hvb:=hs.writes;rw [hV] at hvb;have hwn:IntKind.i64.wrap ((V:Int)+1)=((V+1:Nat):Int):=by rw [IntKind.wrap_i64];omega
 have hkA:Kept noneB w (w.alloc (.cells #[] 54)):=(Kept.refl _ _).alloc _;have lk0:=hlk w (Kept.refl _ _);have lk1:=hlk w.drew (Kept.refl _ _).drew;have lk2:=hlk _ hkA;have lk3:=hlk _ hkA.drew;have HH:=Lib.hid h;have HT:=Lib.hid (And.intro hT hV);have HA:Hid (Kept noneB w (w.alloc (.cells #[] 54))):=Lib.hid hkA;have hb1:=(h.none_ hkA).obj;have d4:=hb1.cell 4;have f4:=hb1.frozen 4;simp only [List.getElem?_toArray,List.getElem?_cons_zero,List.getElem?_cons_succ] at d4;rw [hV] at d4;have d3:=hb1.cell 3;simp only [List.getElem?_toArray,List.getElem?_cons_zero,List.getElem?_cons_succ] at d3
 have e3:(w.alloc (.cells #[] 54)).cell? ⟨g,3,none⟩=some (.map (some F)):=d3;have e4:(w.alloc (.cells #[] 54)).cell? ⟨g,4,none⟩=some (.int .i64 (V:Int)):=d4;have g4:(w.alloc (.cells #[] 54)).frozen? ⟨g,4,none⟩=false:=f4;clear d3 d4 f4;have HB1:=Lib.hid hb1;clear h hs hlk hT hV hkA hb1
 go_enter Try.func20,Try.ntmps20
 go_upto_region 1 with fail
 go_region
 all_goals (
  clear lk0 lk1 lk2 lk3 c3 c4 e3
  go_wp2
  go_ret
  have hT:=HT.out.1;have hV:=HT.out.2;subst hV;have h1:=HH.out.none_ HA.out;have hb:=Blk.set HB1.out 4 (.int .i64 ((M.writes:Int)+1)) (by simp)
  have hk:Kept (oneB g) (w.alloc (.cells #[] 54)) ((w.alloc (.cells #[] 54)).setCell ⟨g,4,none⟩ (.int .i64 ((M.writes:Int)+1))):=Kept.setCell (Kept.refl (oneB g) _) (a:=⟨g,4,none⟩) (.inr rfl) _;have h2:=SstD.obj_ (M':={ M with writes:=M.writes+1 }) h1 hk hb rfl rfl rfl
  exact ⟨by rw [hT];rfl,h2.none_ (Kept.refl _ _).drew,((HA.out.of_none (oneB g)).trans hk).drew⟩)
end Go.Proofs.Ytfpoipamioaklaa.Sto
end
section
namespace Go.Proofs.Ytfpoipamioaklaa.Sto
open Go.ChangeShapes Go.WideShapes Go.ChangeAt Go.RowKit Base Byt Txt Bk Mk Block Go.Lib
set_option linter.unusedVariables false
set_option maxRecDepth 100000
section
variable {w w':World} {g A F:Nat} {M M':SM} {v:Int → Value} {own:Nat → Prop}
theorem SstD.put_ {id:Int} {u:Value} {bs:List UInt8} (h:SstD w g { M with writes:=M.writes+1 } A F v) (hh:hasS M id=true) (hk:Kept (fun b => b=g ∨ b=A ∨ (v id).ownBlock=some b) w w') (ho:Blk w' g 53 #[.map (some A),.int .i64 ((putS14 M id bs).runs.length:Nat),.int .i64 ((putS14 M id bs).room:Nat),.map (some F),.int .i64 ((putS14 M id bs).writes:Nat),.int .i64 (usedS (putS14 M id bs):Nat),.int .i64 ((putS14 M id bs).peak:Nat)])
 (hm:MapK intK w' A (fun y => if y=id then some u else runsV M v y)) (hu:OwnB w' 0 u (runS M id++bs).length (runS M id++bs)) (hn:NewOr w (v id) u):SstD w' g (putS14 M id bs) A F (fun y => if y=id then u else v y) where
 obj:=ho
 runs:=by
  have e:runsV (putS14 M id bs) (fun y => if y=id then u else v y)=fun y => if y=id then some u else runsV M v y:=by
   funext y
   unfold runsV;rw [has_put hh]
   by_cases hy:y=id
   ·simp [hy,hh]
   ·simp [hy]
  rw [e];exact hm
 fails:=h.fails.kept hk (fun e => by rcases e with e | e | e;exact h.ne_map.2 e.symm;exact h.two e.symm;exact (h.ne_data (i:=id) hh e).2.2 rfl)
 data:=fun i hi => by
  rw [has_put hh] at hi;rw [run_put hh]
  by_cases hy:i=id
  ·rw [if_pos hy,if_pos hy]
   exact hu
  ·rw [if_neg hy,if_neg hy]
   exact (h.data i hi).kept hk (fun b hb e => by rcases e with e | e | e;exact (h.ne_data (i:=i) hi hb).1 e;exact (h.ne_data (i:=i) hi hb).2.1 e;exact hy (h.apart i id b hi hh hb e))
 apart:=fun i j b hi hj hbi hbj => by
  rw [has_put hh] at hi hj
  by_cases hyi:i=id
  ·by_cases hyj:j=id
   ·rw [hyi,hyj]
   ·rw [if_pos hyi] at hbi
    rw [if_neg hyj] at hbj;rcases hn b hbi with h1 | h1
    ·rw [hyi];exact h.apart id j b hh hj h1 hbj
    ·have:=((h.data j hj).lt b hbj).2;omega
  ·rw [if_neg hyi] at hbi
   by_cases hyj:j=id
   ·rw [if_pos hyj] at hbj
    rcases hn b hbj with h1 | h1
    ·rw [hyj];exact h.apart i id b hi hh hbi h1
    ·have:=((h.data i hi).lt b hbi).2;omega
   ·rw [if_neg hyj] at hbj
    exact h.apart i j b hi hj hbi hbj
 room:=h.room
 two:=h.two
theorem sstOwn_put {id:Int} {u:Value} {bs:List UInt8} (hh:hasS M id=true) (hn:NewOr w (v id) u) {b:Nat} (h:sstOwn (putS14 M id bs) g A F (fun y => if y=id then u else v y) b):sstOwn M g A F v b ∨ w.heap.size≤b:=by
 rcases h with h | h | h | ⟨i,hi,hb⟩
 ·exact .inl (.inl h)
 ·exact .inl (.inr (.inl h))
 ·exact .inl (.inr (.inr (.inl h)))
 ·rw [has_put hh] at hi
  dsimp only at hb
  by_cases hy:i=id
  ·rw [if_pos hy] at hb
   rcases hn b hb with h1 | h1
   ·exact .inl (.inr (.inr (.inr ⟨id,hh,h1⟩)))
   ·exact .inr h1
  ·rw [if_neg hy] at hb
   exact .inl (.inr (.inr (.inr ⟨i,hi,hb⟩)))
end
theorem step_own2 {w:World} {ops:Array Oper} {o:Oper} {a:Act} {K0:Act → World → Prop} {Q:Exit → Act → World → Prop} {E:Prop} (hw:Region.wanted o (yielded ops a.tmps)=true) (s x:Operand)
 (ho:o.op=.call { callee:=.builtin .append,args:=#[s,x],argTypes:=#[32,32] })
 (base:Nat) (v:Value) (n:Nat) (xs:List UInt8) (hs:a.eval s=v) (hown:OwnB w base v n xs)
 (p:Option Addr) (m c:Nat) (bs:List UInt8) (hx:a.eval x=.slice p m c) (hb:BAt w p m bs) (hl:bs.length=m) (hsum:n+m≤140737488351232) (hbase:base≤w.heap.size)
 (h:∀ v' w',OwnB w' base v' (n+m) (xs++bs) → w.grownBy w' v.ownBlock → NewOr w v v' → K0 (a.put o.dst v') w') :
 if Region.wanted o (yielded ops a.tmps)=true then Oper.wp Try.prog o a w K0 Q else E:=by
 obtain ⟨i0,hi,hz0,hz1,hz2⟩:=info_parts infoU8;refine step_bytes hw s x 32 ho base 5 i0 Try.underlying32 hi hz0 hz1 hz2 v n (nums xs) hs hown p m c bs hx hb hl hsum hbase (fun v' w' h1 h2 h3 => h v' w' ?_ h2 h3)
 unfold OwnB;rw [nums_append];exact h1
theorem cutAt3 {α β γ:Type} {T:α → β → γ → Prop} {G:Prop} (H:α → β → γ → Prop) (main:(∀ a b c,H a b c → T a b c) → G) (tail:∀ a b c,H a b c → T a b c):G:=main tail
def PutW (wq:World) (A:Nat) (M:SM) (v:Int → Value) (id:Int) (xs bs:List UInt8) (k:Nat) (w7:World) (p4:Option Addr) (c4:Nat):Prop:=
 ∃ w4,OwnB w4 0 (.slice p4 k c4) k (xs++bs)∧wq.grownBy w4 (v id).ownBlock∧NewOr wq (v id) (.slice p4 k c4)∧MapK intK w7 A (fun y => if y=id then some (.slice p4 k c4) else runsV M v y)∧Kept (oneB A) w4 w7
set_option maxHeartbeats 8000000 in
theorem sstAppend_any {w:World} {g:Nat} {M:SM} {own:Nat → Prop} (h:StoAt w g M own) (hs:SmallS M) (id:Int) (p:Option Addr) (n c:Nat) (bs:List UInt8) (hb:BAt w p n bs) (hl:bs.length=n) (hn:n≤1000000) (hsep:0 < n → ∀ a,p=some a → ¬ own a.block) :
 Calls Try.prog 10 #[ptrS g,.int .i64 id,.slice p n c] w (ChgPost StoAt w g own (.int .i64 (appendS M id bs).1) (appendS M id bs).2):=by
 obtain ⟨A,F,v,h,ho⟩:=h;have c0:=h.obj.cell 0;simp only [List.getElem?_toArray,List.getElem?_cons_zero] at c0;have lk:=h.look_ok id;have HH:=Lib.hid h;have HO:=Lib.hid ho;obtain ⟨T,hT⟩:∃ T,hasS M id=T:=⟨_,rfl⟩;have HT:=Lib.hid hT;have HS:=Lib.hid hs;have HL:=Lib.hid hl;have HB:=Lib.hid hb;have HSEP:=Lib.hid hsep;have HF:=Lib.hid (sstFail_any h hs);clear h ho hs hl hb hsep
 cases T with
 | false =>
   rw [runsV_no hT] at lk;have lk2:(Instr.lookup 50 (.map (some A)) (.int .i64 id) true).run Try.prog w=.ok (.tuple #[.slice none 0 0,.bool false]) w:=lk;rw [appendS_none hT];clear lk hT
   go_enter Try.func10,Try.ntmps10
   go_wp2
   go_ret
   exact ⟨_,rfl,⟨A,F,v,HH.out,HO.out⟩,fun b hb => .inl hb,Kept.refl _ _⟩
 | true =>
   rw [runsV_yes hT] at lk;obtain ⟨px,cx,hv,hxc,hxm,-⟩:=(HH.out.data id hT).slice;obtain ⟨xs,hxs⟩:∃ xs,runS M id=xs:=⟨_,rfl⟩
   have hxl:xs.length≤1000000:=by
    obtain ⟨k,rfl,hk,_⟩:=has_iff.1 hT;rw [← hxs,runS_some hT];refine HS.out.each _ ?_
    rw [List.getD,List.getElem?_eq_getElem hk];exact List.getElem_mem hk
   obtain ⟨L,hL⟩:∃ L,xs.length=L:=⟨_,rfl⟩;rw [hxs,hL] at hv hxc;rw [hL] at hxl;rw [hv] at lk;have lk2:(Instr.lookup 50 (.map (some A)) (.int .i64 id) true).run Try.prog w=.ok (.tuple #[.slice px L cx,.bool true]) w:=lk;have HV:=Lib.hid (And.intro hv (And.intro hxs hL));obtain ⟨E,hE⟩:∃ E:Bool,decide ((M.writes:Int) ∈ M.fails)=E:=⟨_,rfl⟩;have HE:=Lib.hid hE;have HF2:=HF.out;unfold FailP at HF2;rw [hE] at HF2;have HF3:=Lib.hid HF2;clear lk hT hv hxs hL hE HF2 HF hxc hxm
   go_enter Try.func10,Try.ntmps10
   go_wp2_with fail
   refine HF3.out.mono ?_
   rintro e w5 ⟨rfl,hD5,hK5⟩;clear HF3 c0 lk2;have HD5:=Lib.hid hD5;have HK5:=Lib.hid hK5;clear hD5 hK5
   cases E with
   | true =>
     go_wp2
     go_ret
     rw [appendS_io HT.out (of_decide_eq_true HE.out)];exact ⟨_,rfl,⟨A,F,v,HD5.out,HO.out⟩,fun b hb => .inl hb,HK5.out.mono (fun b hb => (HO.out b).2 (.inl hb))⟩
   | false =>
     have c2:=HD5.out.obj.cell 2;have c5:=HD5.out.obj.cell 5;simp only [List.getElem?_toArray,List.getElem?_cons_zero,List.getElem?_cons_succ] at c2 c5;obtain ⟨R,hR⟩:∃ R,M.room=R:=⟨_,rfl⟩;obtain ⟨U,hU⟩:∃ U,usedS M=U:=⟨_,rfl⟩;have hub:=HS.out.used;have hrb:=HH.out.room;have hub2:usedS { M with writes:=M.writes+1 }=U:=hU
     rw [hR] at c2 hrb;rw [hU] at hub;rw [hub2] at c5;have HRU:=Lib.hid (And.intro hR hU);have hws:IntKind.i64.wrap ((R:Int) - (U:Int))=(R:Int) - (U:Int):=by rw [IntKind.wrap_i64];omega
     by_cases hF:(R:Int) - (U:Int) < (n:Int)
     ·have EA:=Lib.hid (appendS_full HT.out (of_decide_eq_false HE.out) (show M.room < usedS M+bs.length by rw [hR,hU,HL.out];omega))
      clear hub hrb hub2 hR hU
      go_upto_region 8 with fail
      go_quiet (fail)
      go_wp2
      go_ret
      rw [EA.out];exact ⟨_,rfl,⟨A,F,v,HD5.out.none_ ((Kept.refl _ _).drewN _),HO.out⟩,fun b hb => .inl hb,(HK5.out.mono (fun b hb => (HO.out b).2 (.inl hb))).drewN _⟩
     ·have EA:=Lib.hid (appendS_ok HT.out (of_decide_eq_false HE.out) (show ¬ M.room < usedS M+bs.length by rw [hR,hU,HL.out];omega))
      clear hub2 hR hU
      go_upto_region 8 with fail
      go_quiet (fail)
      clear c2 c5 hws;obtain ⟨wq,hwq⟩:∃ wq,w5.drewN nq=wq:=⟨_,rfl⟩;rw [hwq];have hkq:Kept noneB w5 wq:=by rw [← hwq];exact (Kept.refl _ _).drewN _
      have hdq:=HD5.out.none_ hkq;have HKQ:Hid (Kept (oneB g) w wq):=Lib.hid (HK5.out.then hkq (fun _ h => h.elim))
      have c0:=hdq.obj.cell 0;simp only [List.getElem?_toArray,List.getElem?_cons_zero] at c0
      have lk0:(Instr.lookup 50 (.map (some A)) (.int .i64 id) false).run Try.prog wq.drew=.ok (.slice px L cx) wq.drew:=by
       have h2:=(hdq.none_ (Kept.refl _ _).drew).look id;rw [runsV_yes (M:={ M with writes:=M.writes+1 }) HT.out,HV.out.1] at h2
       exact h2
      have lk1:(Instr.lookup 50 (.map (some A)) (.int .i64 id) false).run Try.prog wq=.ok (.slice px L cx) wq:=by
       have h2:=hdq.look id;rw [runsV_yes (M:={ M with writes:=M.writes+1 }) HT.out,HV.out.1] at h2
       exact h2
      have HDQ:=Lib.hid hdq
      have HOX:Hid (OwnB wq.drew 0 (.slice px L cx) L xs):=Lib.hid (by
       have h2:=(hdq.data id HT.out).kept (Kept.refl noneB wq).drew (fun _ _ h => h)
       have e:runS { M with writes:=M.writes+1 } id=xs:=HV.out.2.1
       rw [e,HV.out.1,HV.out.2.2] at h2
       exact h2)
      have HBQ:Hid (BAt wq.drew p n bs):=Lib.hid ((HB.out.kept HKQ.out (fun h0 a ha e => HSEP.out h0 a ha ((HO.out _).2 (.inl e)))).kept (Kept.refl noneB wq).drew (fun _ _ _ h => h))
      clear hwq hkq hdq
      go_upto_region 10 with fail
      clear hF;apply cutAt3 (fun w7 p4 c4 => Hid (PutW wq.drew A M v id xs bs (L+n) w7 p4 c4))
      case main =>
       intro TAIL
       go_region_law (first
        | (refine step_own2 (by kernel_rfl) (.tmp 46) (.tmp 47) (by rfl) 0 _ L xs (by rfl) HOX.out p n c bs (by rfl) HBQ.out HL.out (by omega) (by simp) ?_
           intro v4 w4 hown hgrow hnew;obtain ⟨p4,c4,rfl,_,_,_,_,_⟩:=OwnB.slice hown
           have hkw:Kept (fun b => (v id).ownBlock=some b) wq w4:=by
            refine (Kept.refl _ wq).drew.grown hgrow (fun k hk => .inr ?_)
            rw [HV.out.1];exact hk
           have hmm:MapK intK w4 A (runsV M v):=HDQ.out.runs.kept hkw (fun e => (HDQ.out.ne_data (i:=id) HT.out e).2.1 rfl)
           have a0:w4.cell? ⟨g,0,none⟩=some (.map (some A)):=by
            have h2:=(HDQ.out.obj.keptS hkw (fun e => (HDQ.out.ne_data (i:=id) HT.out e).1 rfl)).cell 0
            exact h2
           obtain ⟨w7,hrun,hm7,hk7,hs7⟩:=MapK.put (K:=intK) hmm Try.underlying50 Try.underlying3 id (.slice p4 (L+n) c4);have run7:(Instr.mapUpdate 50 (.map (some A)) (.int .i64 id) (.slice p4 (L+n) c4)).run Try.prog w4=.ok () w7:=hrun;have HPW:Hid (PutW wq.drew A M v id xs bs (L+n) w7 p4 c4):=Lib.hid ⟨w4,hown,by rw [HV.out.1];exact hgrow,by rw [HV.out.1];exact hnew,hm7,hk7⟩
           clear hown hgrow hnew hkw hmm hrun hm7 hk7 hs7)
        )
       all_goals exact TAIL w7 p4 c4 HPW
      case tail =>
       intro w7 p4 c4 HPW;obtain ⟨w4,hown,hgrow,hnew,hm7,hk7⟩:=HPW.out;have hdr:=HDQ.out.none_ (Kept.refl noneB wq).drew;have hkw:Kept (fun b => (v id).ownBlock=some b) wq.drew w4:=(Kept.refl _ wq.drew).grown hgrow (fun k hk => .inr hk)
       have hkp:Kept (fun b => b=g ∨ b=A ∨ (v id).ownBlock=some b) wq.drew w7:=(hkw.mono (fun b hb => .inr (.inr hb))).trans (hk7.mono (fun b hb => .inr (.inl hb)))
       have hb7:=(hdr.obj.keptS hkw (fun e => (hdr.ne_data (i:=id) HT.out e).1 rfl)).keptS hk7 (fun e => hdr.ne_map.1 e)
       obtain ⟨P,hP⟩:∃ P,M.peak=P:=⟨_,rfl⟩;obtain ⟨V,hVV⟩:∃ V,U+n=V:=⟨_,rfl⟩;obtain ⟨X,hX⟩:∃ X,max P V=X:=⟨_,rfl⟩;have hpb:P≤1000000000:=by rw [← hP];exact HS.out.peak
       have e5:=hb7.cell 5;have f5:=hb7.frozen 5;have hb8:=hb7.set 5 (.int .i64 (V:Int)) (by simp)
       have e6:=hb8.cell 6;have e5':=hb8.cell 5;have f6:=hb8.frozen 6;simp only [List.getElem?_toArray,List.getElem?_cons_zero,List.getElem?_cons_succ] at e5;simp only [List.set_toArray,List.set_cons_succ,List.set_cons_zero,List.getElem?_toArray,List.getElem?_cons_zero,List.getElem?_cons_succ] at e6 e5';rw [show usedS { M with writes:=M.writes+1 }=U from HRU.out.2] at e5
       rw [show SM.peak { M with writes:=M.writes+1 }=P from hP] at e6
       have hun:(U:Int)+(n:Int)=(V:Int):=by omega
       have hvb:V≤1001000000:=by omega
       have hmax:(if P < V then (V:Int) else (P:Int))=(X:Int):=by split<;>omega
       obtain ⟨w8,hw8⟩:∃ w8,w7.setCell ⟨g,5,none⟩ (.int .i64 (V:Int))=w8:=⟨_,rfl⟩;rw [hw8] at hb8 e6 e5' f6;have HHW8:=Lib.hid hw8;have HB8:=Lib.hid hb8;have HKP:=Lib.hid hkp;have HX:=Lib.hid (And.intro hP (And.intro hVV hX));have HDR:=Lib.hid hdr;clear hown hgrow hnew hm7 hk7 hkw hkp hb7 hb8 hdr hP hX hVV c0 lk0 lk1 hpb
       go_upto_region 12 with fail
       clear hw8 e5 f5 hun
       go_region
       all_goals (
        clear e6 e5' f6 hmax
        go_wp2
        go_ret
        rw [EA.out];obtain ⟨w4,hown,hgrow,hnew,hm7,hk7⟩:=HPW.out;obtain ⟨w9,hw9⟩:∃ w9,w8.setCell ⟨g,6,none⟩ (.int .i64 (X:Int))=w9:=⟨_,rfl⟩;have hb9:=HB8.out.set 6 (.int .i64 (X:Int)) (by simp)
        have hk9:Kept (oneB g) w7 w9:=by
         rw [← hw9,← HHW8.out];exact Kept.setCell (Kept.setCell (Kept.refl (oneB g) w7) (a:=⟨g,5,none⟩) (.inr rfl) _) (a:=⟨g,6,none⟩) (.inr rfl) _
        have hk49:Kept (fun b => b=g ∨ b=A) w4 w9:=(hk7.mono (fun b hb => .inr hb)).trans (hk9.mono (fun b hb => .inl hb))
        have hkq9:Kept (fun b => b=g ∨ b=A ∨ (v id).ownBlock=some b) wq.drew w9:=HKP.out.trans (hk9.mono (fun b hb => .inl hb))
        rw [hw9] at hb9 ⊢
        have hD:=HDR.out.put_ HT.out hkq9 (bs:=bs) (by
         have e1:(putS14 M id bs).runs.length=M.runs.length:=by unfold putS14;simp
         have e2:(putS14 M id bs).room=M.room:=rfl;have e3:(putS14 M id bs).writes=M.writes+1:=rfl;rw [e1,e2,e3,used_put HT.out,peak_put HT.out,HRU.out.2,HL.out,HX.out.1,HX.out.2.1,HX.out.2.2];exact hb9) (hm7.kept hk9 (fun e => HDR.out.ne_map.1 (show A=g from e).symm)) (by
         rw [HV.out.2.1,List.length_append,HV.out.2.2,HL.out]
         exact hown.kept hk49 (fun b hb e => by
          rcases hnew b hb with h1 | h1
          ·rcases e with e | e
           ·exact (HDR.out.ne_data (i:=id) HT.out h1).1 e
           ·exact (HDR.out.ne_data (i:=id) HT.out h1).2.1 e
          ·rcases e with e | e
           ·have:=HDR.out.obj.lt;omega
           ·have:=map_lt HDR.out.runs;omega)) hnew
        have hkf:Kept own w w9:=(HKQ.out.mono (fun b hb => (HO.out b).2 (.inl hb))).drew.then hkq9 (fun b hb => .inr ((HO.out b).2 (by
         rcases hb with hb | hb | hb
         ·exact .inl hb
         ·exact .inr (.inl hb)
         ·exact .inr (.inr (.inr ⟨id,HT.out,hb⟩)))))
        refine ⟨_,rfl,⟨A,F,_,hD.none_ (Kept.refl _ _).drew,fun b => Iff.rfl⟩,fun b hb => ?_,hkf.drew⟩
        rcases sstOwn_put HT.out hnew hb with h1 | h1
        ·exact .inl ((HO.out b).2 h1)
        ·exact .inr (Nat.le_trans HKQ.out.size h1))
end Go.Proofs.Ytfpoipamioaklaa.Sto
end
section
namespace Go.Proofs.Ytfpoipamioaklaa.Sto
open Go.ChangeShapes Go.WideShapes Go.ChangeAt Go.RowKit Base Byt Txt Bk Mk Block Go.Lib
set_option linter.unusedVariables false
theorem storeC:StoC StoAt where
 lt:=stoAt_lt
 frame:=stoAt_frame
 new:=fun w room q m d zs hi hl hmd hd hm h1 h2 => sstNew_any w room q m d zs hi hl hmd hd hm h1 h2
 create:=fun h hs => sstCreate_any h hs
 append:=fun id p n c bs h hs hb hl hnc hc hn hsep h1 h2 => sstAppend_any h hs id p n c bs hb hl hn hsep
 read:=fun id a n h hs _ _ _ _ _ _ => sstRead_any h hs id a n
 drop:=fun id h hs _ _ => sstDrop_any h hs id
 size:=fun id h hs _ _ => sstSize_any h hs id
 used:=fun h hs => sstUsed_any h hs
 peak:=fun h hs => sstPeak_any h hs
 writes:=fun h hs => sstWrites_any h hs
 create0:=sstCreate0_any
 append0:=sstAppend0_any
 read0:=sstRead0_any
 drop0:=sstDrop0_any
 size0:=sstSize0_any
 used0:=sstUsed0_any
 peak0:=sstPeak0_any
 writes0:=sstWrites0_any
end Go.Proofs.Ytfpoipamioaklaa.Sto
end
section
namespace Go.Proofs.Ytfpoipamioaklaa.Walk
open Go.ChangeShapes Go.WideShapes Go.ChangeAt Go.RowKit Base Byt Txt Bk Block Sto Go.Lib
set_option linter.unusedVariables false
theorem storeNone (p:Option Addr) (n c:Nat) (zs:List Int) (k:Int) (w:World) (w0:IsRow .u8 w p n c zs) (b0:c * 1≤140737488351232) (wk:(Lit.int .i64 k).wf=true) :
 Calls Try.prog 5 #[.slice p n c,.int .i64 k] w fun e w' => e=.returned (.bool true)∧Below w.heap.size w w':=storeNoneC storeC p n c zs k w w0 b0 wk
end Go.Proofs.Ytfpoipamioaklaa.Walk
end
