/- Texts of this seat, merged: what the proof reaches. -/
import Derived.Test.YtnpkcneojilmkaaGreatDoorMemberGNUX17
import Derived.Lib.SlBytesConst
section
namespace Go.Proofs.YtnpkcneojilmkaaGreatDoor.Block
open Go.ChangeShapes Go.WideShapes Go.ChangeAt Go.RowKit Base Byt Num Go.Lib
set_option linter.unusedVariables false
def blkR (bs:List UInt8) (a:Nat):Int × List UInt8 × Nat:=
 if a=bs.length then (14,[],a) else if a+512≤bs.length then (0,(bs.drop a).take 512,a+512) else (2,[],bs.length)
def ResPost (w:World) (g:Nat) (S:Sv) (E:Int) (X:List UInt8) (a':Nat) (e:Ending) (w':World):Prop:=
 ∃ (p:Option Addr) (m c t':Nat),e=.returned (.tuple #[.slice p m c,.int .i64 E])∧X.length=m∧BAt w' p m X∧(∀ x,p=some x → w.heap.size≤x.block)∧Src w' g S a' t'∧Kept (oneB g) w w'
theorem block_res (w:World) (g a t:Nat) (S:Sv) (h:Src w g S a t) (ho:S.off g) :
 Calls Tryz.prog 51 #[.pointer (some ⟨g,0,none⟩)] w (ResPost w g S (blkR S.bs a).1 (blkR S.bs a).2.1 (blkR S.bs a).2.2):=by
 refine (srcBlock_any w g a t S h ho).mono ?_
 intro e w' h';have hl:=h.len;unfold blkR;rcases h' with ⟨h1,rfl,⟨t',h2⟩,h3⟩ | ⟨h0,⟨h1,v,rfl,h2,⟨t',h3⟩,h4⟩ | ⟨h1,rfl,⟨t',h3⟩,h4⟩⟩
 ·rw [if_pos (by omega)]
  exact ⟨none,0,0,t',rfl,rfl,fun hh => absurd hh (by omega),(fun x hx => by cases hx),h2,h3⟩
 ·rw [if_neg (by omega),if_pos (by omega)]
  obtain ⟨p,c,rfl,_,_,h5,h6,h7⟩:=h2.slice;exact ⟨p,512,c,t',rfl,h6,h5,fun x hx => (h7 x hx).1,h3,h4⟩
 ·rw [if_neg (by omega),if_neg (by omega)]
  exact ⟨none,0,0,t',rfl,rfl,fun hh => absurd hh (by omega),(fun x hx => by cases hx),by rw [hl];exact h3,h4⟩
def AAt (w:World) (p:Option Addr) (n:Nat) (V:Nat → Bool) (U:Nat → Int):Prop:=
 0 < n → ∃ b o,p=some ⟨b,o,none⟩∧b < w.heap.size ∧ ∀ i,i < n → w.cell? ⟨b,o+i * 2,none⟩=some (.bool (V i))∧w.cell? ⟨b,o+i * 2+1,none⟩=some (.int .i64 (U i))∧(Lit.int .i64 (U i)).wf=true
theorem AAt.kept {T:Nat → Prop} {w w':World} {p:Option Addr} {n:Nat} {V:Nat → Bool} {U:Nat → Int} (h:AAt w p n V U) (hk:Kept T w w') (hn:0 < n → ∀ a,p=some a → ¬ T a.block):AAt w' p n V U:=fun h0 => by
 obtain ⟨b,o,rfl,hbw,hc⟩:=h h0;have hb:=hk.block b hbw (hn h0 _ rfl);exact ⟨b,o,rfl,Nat.lt_of_lt_of_le hbw hk.size,fun i hi => ⟨by rw [World.cell?_of_block hb];exact (hc i hi).1,by rw [World.cell?_of_block hb];exact (hc i hi).2.1,(hc i hi).2.2⟩⟩
def Sv.apart (S:Sv) (g:Nat):Prop:=(∀ x,S.p=some x → x.block≠g)∧(∀ x,S.q=some x → x.block≠g)
end Go.Proofs.YtnpkcneojilmkaaGreatDoor.Block
end
