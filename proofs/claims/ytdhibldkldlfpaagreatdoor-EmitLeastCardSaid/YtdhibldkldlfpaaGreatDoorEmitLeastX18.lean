/- Merged. -/
import Derived.Test.YtdhibldkldlfpaaGreatDoorEmitLeastX17
import Derived.Lib.SlBytesConst
namespace Go.Proofs.YtdhibldkldlfpaaGreatDoor
set_option linter.unusedVariables false
namespace Block
open Go.ChangeShapes Go.WideShapes Go.ChangeAt Go.RowKit Base bJ qd Go.Lib
def uz (bs:List UInt8) (a:Nat):Int × List UInt8 × Nat:=
 if a=bs.length then(14,[],a)else if a+512≤bs.length then(0,(bs.drop a).take 512,a+512)else(2,[],bs.length)
def M6 (w:World) (g:Nat) (S:Sv) (E:Int) (X:List UInt8) (a':Nat) (e:Ending) (w':World):Prop:=
 ∃(p:Option Addr) (m c t':Nat),e=.returned (.tuple #[.slice p m c,.int .i64 E])∧X.length=m∧cB w' p m X∧(∀x,p=some x→w.heap.size≤x.block)∧Src w' g S a' t'∧Kept (aA g) w w'
theorem pw (w:World) (g a t:Nat) (S:Sv) (h:Src w g S a t) (ho:S.off g):
 Calls Tryz.prog 71 #[.pointer (some ⟨g,0,none⟩)] w (M6 w g S (uz S.bs a).1 (uz S.bs a).2.1 (uz S.bs a).2.2):=by
 refine(kW w g a t S h ho).mono ?_;intro e w' D;have hl:=h.len;unfold uz;rcases D with⟨h1,rfl,⟨t',h2⟩,h3⟩|⟨h0,⟨h1,v,rfl,h2,⟨t',h3⟩,h4⟩|⟨h1,rfl,⟨t',h3⟩,h4⟩⟩
 ·rw[if_pos (by omega)]
  exact⟨none,0,0,t',rfl,rfl,fun B=>absurd B (by omega),(fun x A=>by cases A),h2,h3⟩
 ·rw[if_neg (by omega),if_pos (by omega)]
  obtain⟨p,c,rfl,_,_,E,G,H⟩:=h2.slice;exact⟨p,512,c,t',rfl,G,E,fun x A=>(H x A).1,h3,h4⟩
 ·rw[if_neg (by omega),if_neg (by omega)]
  exact⟨none,0,0,t',rfl,rfl,fun B=>absurd B (by omega),(fun x A=>by cases A),by rw[hl];exact h3,h4⟩
def VP (w:World) (p:Option Addr) (n:Nat) (V:Nat→Bool) (U:Nat→Int):Prop:=
 0<n→∃b o,p=some ⟨b,o,none⟩∧b<w.heap.size∧∀i,i<n→w.cell? ⟨b,o+i*2,none⟩=some (.bool (V i))∧w.cell? ⟨b,o+i*2+1,none⟩=some (.int .i64 (U i))∧(Lit.int .i64 (U i)).wf=true
theorem VP.kept {T:Nat→Prop} {w w':World} {p:Option Addr} {n:Nat} {V:Nat→Bool} {U:Nat→Int} (h:VP w p n V U) (hk:Kept T w w') (hn:0<n→∀a,p=some a→¬T a.block):VP w' p n V U:=fun A=>by
 obtain⟨b,o,rfl,D,hc⟩:=h A;have B:=hk.block b D (hn A _ rfl);exact⟨b,o,rfl,Nat.lt_of_lt_of_le D hk.size,fun i hi=>⟨by rw[World.cell?_of_block B];exact(hc i hi).1,by rw[World.cell?_of_block B];exact(hc i hi).2.1,(hc i hi).2.2⟩⟩
def Sv.apart (S:Sv) (g:Nat):Prop:=(∀x,S.p=some x→x.block≠g)∧(∀x,S.q=some x→x.block≠g)
end Block
end Go.Proofs.YtdhibldkldlfpaaGreatDoor
