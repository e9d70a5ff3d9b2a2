/- Texts of this seat, merged: what the proof reaches. -/
import Derived.Test.YtphehianajckaaaHeapPlaysX4
import Derived.Test.YtphehianajckaaaHeapPlaysX7
import Derived.Lib.SliceRun
import Derived.Test.YtphehianajckaaaHeapPlaysX5
namespace Go.Proofs.Ytphehianajckaaa
namespace Base
end Base
namespace Byt
end Byt
namespace Num
end Num
end Go.Proofs.Ytphehianajckaaa
section
namespace Go.Proofs.Ytphehianajckaaa.Block
open Go.ChangeShapes Go.WideShapes Go.ChangeAt Go.RowKit Base Byt Num Go.Lib
set_option linter.unusedVariables false
theorem bat_none {w:World} {n:Nat} {bs:List UInt8} (h:BAt w none n bs):n=0:=by
 rcases Nat.eq_zero_or_pos n with h0 | h0
 ·exact h0
 ·obtain ⟨_,_,he,_⟩:=h h0
  cases he
def ClonePost (w:World) (n:Nat) (bs:List UInt8) (e:Ending) (w':World):Prop:=∃ v,e=.returned v∧OwnB w' w.heap.size v n bs∧Kept noneB w w'
theorem clone_any (w:World) (p:Option Addr) (n c:Nat) (bs:List UInt8) (hb:BAt w p n bs) (hl:bs.length=n) (hn:n≤140737488351232) :
 Calls Try.prog 19 #[.slice p n c] w (ClonePost w n bs):=by
 obtain ⟨i0,hi,hz0,hz1,hz2⟩:=info_parts infoU8;have q22:∀ (w:World) (a:Option Addr) (n c n' c':Nat),(binOp .eql 30 (.slice a n c) (.slice none n' c')).run Try.prog w=.ok (.bool a.isNone) w:=fun w a n c n' c' => Lib.run_eql_slice_nil w _ _ a n c n' c' Try.underlying30
 have HI:=Lib.hid hi;have HZ0:=Lib.hid hz0;have HZ1:=Lib.hid hz1;have HZ2:=Lib.hid hz2;have HB:=Lib.hid hb;have HL:=Lib.hid hl;clear hi hz0 hz1 hz2 hb hl;rcases p with _ | x
 ·obtain rfl:=bat_none HB.out
  obtain rfl:bs=[]:=List.eq_nil_of_length_eq_zero HL.out
  go_enter Try.func19,Try.ntmps19
  go_wp2
  go_ret
  exact ⟨_,rfl,World.ownsRow_nil _ _ _ _,Kept.refl _ _⟩
 ·go_enter Try.func19,Try.ntmps19
  go_wp2_with (at_builtin;refine append_bytes rfl _ _ 30 rfl w.heap.size 5 i0 Try.underlying30 HI.out HZ0.out HZ1.out HZ2.out _ 0 [] rfl (World.ownsRow_made w #[] 0 (Nat.le_refl _) (by decide) rfl) (some x) n c bs rfl (HB.out.alloc _) HL.out ?d2 ?d3 ?_)
  case d2 => omega
  case d3 => simp
  intro v' w1 hown hgrow;have HO:=Lib.hid hown;have hk:Kept noneB w w1:=(((Kept.refl noneB w).alloc _)).grown hgrow (by intro k hk;simp [Value.ownBlock] at hk;omega)
  have HK:=Lib.hid hk;clear hown hgrow hk
  go_wp2
  go_ret
  exact ⟨v',rfl,HO.out,HK.out⟩
end Go.Proofs.Ytphehianajckaaa.Block
end
