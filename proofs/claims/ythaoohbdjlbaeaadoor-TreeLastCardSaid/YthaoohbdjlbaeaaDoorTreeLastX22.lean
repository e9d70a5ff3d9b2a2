/- Texts of this seat, merged: what the proof reaches. -/
import Derived.Test.YthaoohbdjlbaeaaDoorTreeLastX20
import Derived.Test.YthaoohbdjlbaeaaDoorTreeLastX6
import Derived.WalkSpells
namespace Go.Proofs.YthaoohbdjlbaeaaDoor
namespace Base
end Base
namespace Bk
end Bk
namespace Block
end Block
namespace Byt
end Byt
namespace Mem
end Mem
namespace Txt
end Txt
end Go.Proofs.YthaoohbdjlbaeaaDoor
section
namespace Go.Proofs.YthaoohbdjlbaeaaDoor.Tre
open Go.ChangeShapes Go.WideShapes Go.ChangeAt Go.RowKit Base Byt Txt Bk Block Mem Go.Lib
set_option linter.unusedVariables false
set_option maxRecDepth 100000
def ClonePost (w:World) (n:Nat) (bs:List UInt8) (e:Ending) (w':World):Prop:=
 ∃ p c,e=.returned (.slice p n c)∧n≤c∧c≤maxLen∧BAt w' p n bs∧(∀ x,p=some x → w.heap.size≤x.block)∧Below w.heap.size w w'
set_option maxHeartbeats 1000000 in
theorem clone_any (p:Option Addr) (n c:Nat) (bs:List UInt8) (w:World) (h:BAt w p n bs) (hl:bs.length=n) (hn:n≤140737488351232) :
 Calls Tryd.prog 36 #[.slice p n c] w (ClonePost w n bs):=by
 obtain ⟨i0,hi,hz0,hz1,hz2⟩:=info_parts infoU8;have HI:=Lib.hid hi;have HZ0:=Lib.hid hz0;have HZ1:=Lib.hid hz1;have HZ2:=Lib.hid hz2;have HB:=Lib.hid h;have HL:=Lib.hid hl;have hq:∀ w,(binOp .eql 36 (.slice p n c) (.slice none 0 0)).run Tryd.prog w=.ok (.bool p.isNone) w:=fun w => Lib.run_eql_slice_nil w 36 5 p n c 0 0 Tryd.underlying36
 clear hi hz0 hz1 hz2 h hl
 go_enter Tryd.func36,Tryd.ntmps36
 cases p with
 | none =>
   have h0:n=0:=by
    rcases Nat.eq_zero_or_pos n with h0 | h0
    ·exact h0
    ·obtain ⟨_,_,he,_⟩:=HB.out h0
     cases he
   subst h0
   go_wp2
   go_ret
   have hb:bs=[]:=List.eq_nil_of_length_eq_zero HL.out;subst hb;exact ⟨none,0,rfl,Nat.le_refl _,by decide,BAt.none_ _ _,(fun x h => by cases h),Below.refl _ _⟩
 | some a =>
   go_wp2_with (at_builtin;refine append_bytes rfl _ _ 36 rfl w.heap.size 5 i0 Tryd.underlying36 HI.out HZ0.out HZ1.out HZ2.out _ 0 [] rfl (World.ownsRow_made w #[] 0 (Nat.le_refl _) (by decide) rfl) (some a) n c bs rfl (HB.out.alloc _) HL.out ?d2 ?d3 ?_)
   case d2 => omega
   case d3 => simp
   intro v2 w2 hown hgrow;have ho2:OwnB w2 w.heap.size v2 n bs:=by simpa [OwnB] using hown
   have hk2:Kept noneB w w2:=(((Kept.refl noneB w).alloc _)).grown hgrow (by intro k hk;simp [Value.ownBlock] at hk;omega)
   have h12:Below w.heap.size w w2:=hk2.below (Nat.le_refl _) (fun _ h => h.elim)
   obtain ⟨p2,c2,rfl,hle2,hmx2,hb2,_,hat2⟩:=ho2.slice;have P:=Lib.hid (And.intro hle2 (And.intro hmx2 (And.intro hb2 (And.intro hat2 h12))));clear hown hgrow ho2 hk2 h12 hle2 hmx2 hb2 hat2
   go_wp2
   go_ret
   exact ⟨p2,c2,rfl,P.out.1,P.out.2.1,P.out.2.2.1,fun x hx => (P.out.2.2.2.1 x hx).1,P.out.2.2.2.2⟩
end Go.Proofs.YthaoohbdjlbaeaaDoor.Tre
end
