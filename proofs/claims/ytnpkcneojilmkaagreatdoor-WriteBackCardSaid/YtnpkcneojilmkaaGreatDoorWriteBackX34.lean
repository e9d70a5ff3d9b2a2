/- Texts of this seat, merged: what the proof reaches. -/
import Derived.Test.YtnpkcneojilmkaaGreatDoorWriteBackX33
import Derived.Test.YtnpkcneojilmkaaGreatDoorWriteBackX32
import Derived.Test.YtnpkcneojilmkaaGreatDoorWriteBackX13
import Derived.BigRegion
import Derived.BigQuiet
import Derived.Deep.QuietTactic
import Derived.Deep.RegionHeldLaw
import Derived.Test.YtnpkcneojilmkaaGreatDoorWriteBackX23
import Derived.Deep.LoopGhost
import Derived.Test.YtnpkcneojilmkaaGreatDoorWriteBackX24
import Derived.Deep.DeepCutAuto
section
namespace Go.Proofs.YtnpkcneojilmkaaGreatDoor.Mem
open Go.ChangeShapes Go.WideShapes Go.ChangeAt Go.RowKit Base Byt Txt Bk Mk Block Hp Head Attr Rec Go.Lib Go.Shelf
set_option linter.unusedVariables false
set_option maxRecDepth 100000
section
variable {w0 w w':World} {K:RK} {a:Nat} {s:RS} {mb:Option Nat} {v:Value} {xs:List MP} {q:Option Addr} {n c:Nat}
def StepPost (w0:World) (K:RK) (a:Nat) (st:Step) (e:Ending) (w':World):Prop:=
 match st with
 | .fault er => e=.returned (.int .i64 er)∧Below w0.heap.size w0 w'
 | .done => False
 | .next k s' => e=.returned (.int .i64 0)∧Left w0 K (a+k) s' w'
theorem wait_some (s:RS) (q:Option Addr) (n c:Nat) (k:UInt8):(waitF s q n c k).isSome=true ↔ (k=120∧s.hasX=true) ∨ (k=76∧s.name.isSome=true) ∨ (k=75∧s.link.isSome=true):=by
 unfold waitF
 by_cases h1:k=120
 ·subst h1
  cases s.hasX<;>simp
 ·by_cases h2:k=76
  ·subst h2
   cases s.name<;>simp
  ·by_cases h3:k=75
   ·subst h3
    cases s.link<;>simp
   ·simp [h1,h2,h3]
theorem ext_any (hr:Rd w0 w K (a+512) s mb v xs q n c) (h:HeadV) (h0:0≤h.size) (hk:isExt h.kind=true) (hN:Need w0) :
 Calls Tryz.prog 55 #[.pointer (some ⟨K.r,0,none⟩),.agg (headC h)] w (StepPost w0 K a (extD (K.S.bs.drop a) h s)):=by
 obtain ⟨t,hs⟩:=hr.src;have hlen:=hs.len;have hle:=hs.le;have hLL:(K.S.bs.drop a).length=K.S.n - a:=by rw [List.length_drop,hlen]
 unfold extD
 by_cases h1:(h.kind=120∧s.hasX=true) ∨ (h.kind=76∧s.name.isSome=true) ∨ (h.kind=75∧s.link.isSome=true)
 ·rw [if_pos h1]
  refine (ext_waits hr h ((wait_some s q n c h.kind).2 h1)).mono ?_
  rintro e w' ⟨rfl,hb⟩;exact ⟨rfl,hr.bel.trans (hb.mono hr.bel.size)⟩
 ·rw [if_neg h1]
  have hw:waitF s q n c h.kind=none:=by
   cases hx:waitF s q n c h.kind with
   | none => rfl
   | some y => exact absurd ((wait_some s q n c h.kind).1 (by rw [hx];rfl)) h1
  by_cases h2:1048576 < h.size
  ·rw [if_pos h2]
   refine (ext_large hr h hw h2).mono ?_
   rintro e w' ⟨rfl,hb⟩;exact ⟨rfl,hr.bel.trans (hb.mono hr.bel.size)⟩
  ·rw [if_neg h2]
   obtain ⟨k,hk0⟩:∃ k:Nat,h.size=(k:Int):=⟨h.size.toNat,by omega⟩
   have hkl:k≤1048576:=by omega
   have hbk:blocksOf k=padN k:=rfl;unfold bodyN;rw [hk0,Int.toNat_natCast,hLL]
   by_cases h3:K.S.n < a+512+padN k
   ·rw [if_pos (by rw [hbk];omega)]
    refine (ext_short hr h hw k hk0 hkl h3).mono ?_
    rintro e w' ⟨rfl,hb⟩;exact ⟨rfl,hb⟩
   ·rw [if_neg (by rw [hbk];omega)]
    simp only;obtain ⟨X,hX⟩:∃ X,(K.S.bs.drop (a+512)).take k=X:=⟨_,rfl⟩;rw [List.drop_drop,hX,hbk];have hl:a+512+padN k≤K.S.n:=by omega
    by_cases k1:h.kind=76
    ·rw [if_pos k1]
     refine (ext_name hr h hw k hk0 hkl X hX hl k1).mono ?_
     rintro e w' ⟨rfl,hb⟩;rw [Nat.add_assoc] at hb;exact ⟨rfl,hb⟩
    ·rw [if_neg k1]
     by_cases k2:h.kind=75
     ·rw [if_pos k2]
      refine (ext_link hr h hw k hk0 hkl X hX hl k2).mono ?_
      rintro e w' ⟨rfl,hb⟩;rw [Nat.add_assoc] at hb;exact ⟨rfl,hb⟩
     ·rw [if_neg k2]
      by_cases h4:(recsD 5 9 X).2≠0
      ·rw [if_pos h4]
       refine (ext_recbad hr h hw k hk0 hkl X hX hl _ rfl h4 ⟨fun e => k1 ((u8_lit h.kind 76 (by decide)).1 e),fun e => k2 ((u8_lit h.kind 75 (by decide)).1 e)⟩ hN).mono ?_
       rintro e w' ⟨rfl,hb⟩;exact ⟨rfl,hb⟩
      ·rw [if_neg h4]
       have h5:recsD 5 9 X=((recsD 5 9 X).1,0):=Prod.ext rfl (Classical.byContradiction h4)
       by_cases k3:h.kind=103
       ·rw [if_pos k3]
        refine (ext_glob hr h hw k hk0 hkl X hX hl _ h5 k3 hN).mono ?_
        rintro e w' ⟨rfl,hb⟩;rw [Nat.add_assoc] at hb;exact ⟨rfl,hb⟩
       ·rw [if_neg k3]
        have k4:h.kind=120:=by
         unfold isExt at hk
         simpa [k1,k2,k3] using hk
        refine (ext_own hr h hw k hk0 hkl X hX hl _ h5 k4 hN).mono ?_
        rintro e w' ⟨rfl,hb⟩;rw [Nat.add_assoc] at hb;exact ⟨rfl,hb⟩
end
end Go.Proofs.YtnpkcneojilmkaaGreatDoor.Mem
end
section
namespace Go.Proofs.YtnpkcneojilmkaaGreatDoor.Mem
open Go.ChangeShapes Go.WideShapes Go.ChangeAt Go.RowKit Base Byt Txt Bk Mk Block Hp Head Attr Rec Path Go.Lib Go.Shelf
set_option linter.unusedVariables false
set_option maxRecDepth 100000
section
variable {w0 w w':World} {K:RK} {a:Nat} {s:RS} {mb:Option Nat} {v:Value} {xs:List MP} {q:Option Addr} {n c:Nat}
def ownV (s:RS) (q:Option Addr) (n c:Nat):Option Addr × Nat × Nat:=if s.hasX=true then (q,n,c) else (none,0,0)
theorem look120 (h:MapK u8K w K.mw (waitF s q n c)) {q':Option Addr} {n' c':Nat} (ho:ownV s q n c=(q',n',c')) :
 (Instr.lookup 72 (.map (some K.mw)) (.int .u8 120) false).run Tryz.prog w=.ok (.agg #[.string ⟨#[]⟩,.slice q' n' c']) w:=by
 have:=h.look Tryz.underlying72 Tryz.underlying5 extZero 120;have e:waitF s q n c 120=if s.hasX=true then some (.agg #[.string ⟨#[]⟩,.slice q n c]) else none:=by unfold waitF;rw [if_pos rfl]
 rw [e] at this;unfold ownV at ho
 cases hx:s.hasX with
 | true =>
   rw [hx,if_pos rfl] at ho this
   cases ho
   exact this
 | false =>
   rw [hx,if_neg (by decide)] at ho this
   cases ho
   exact this
theorem Rd.ownAt (h:Rd w0 w K a s mb v xs q n c) {q':Option Addr} {n' c':Nat} (ho:ownV s q n c=(q',n',c')):RecsAt w q' n' s.own∧n'≤1048576:=by
 unfold ownV at ho
 cases hx:s.hasX with
 | true =>
   rw [hx,if_pos rfl] at ho
   cases ho
   refine ⟨h.own,?_⟩;have h1:=h.own.1;have h2:=h.ol.2;omega
 | false =>
   rw [hx,if_neg (by decide)] at ho
   cases ho
   rw [h.own0 hx];exact ⟨⟨rfl,fun h => absurd h (by omega)⟩,by omega⟩
theorem ext_field (w:World) (x:ByteArray) (p:Option Addr) (m d:Nat):(Instr.field 131 (.agg #[.string x,.slice p m d]) 1).run Tryz.prog w=.ok (.slice p m d) w:=by
 kernel_rfl
theorem renD_bd (h:HeadV) (hr:Rd w0 w K a s mb v xs q n c) (h1:h.name.length≤1048576) (h2:h.link.length≤1048576):(renD h s).name.length≤1048576∧(renD h s).link.length≤1048576:=by
 unfold renD;constructor
 ·show (s.name.getD h.name).length≤_
  cases hx:s.name with
  | none => exact h1
  | some t => exact hr.nl t hx
 ·show (s.link.getD h.link).length≤_
  cases hx:s.link with
  | none => exact h2
  | some t => exact hr.ll t hx
theorem apply_bd (h:HeadV) (hr:Rd w0 w K a s mb v xs q n c) (h0:0≤h.size) (h1:h.name.length≤1048576) (h2:h.link.length≤1048576) :
 0≤(applyD (lastD s.glob) s.own (renD h s)).1.size∧(applyD (lastD s.glob) s.own (renD h s)).1.name.length≤1048576∧(applyD (lastD s.glob) s.own (renD h s)).1.link.length≤1048576:=
 applyV_bd 1048576 (fun i _ => glob_len hr.gl hr.ol.1 _) h0 (renD_bd h hr h1 h2).1 (renD_bd h hr h1 h2).2
theorem apply_rd (h:HeadV) (hr:Rd w0 w K a s mb v xs q n c) {q':Option Addr} {n' c':Nat} (ho:ownV s q n c=(q',n',c')) (H:HeadV) :
 Calls Tryz.prog 83 #[.pointer (some ⟨K.gs,0,none⟩),.agg (headC H),.slice q' n' c'] w fun e w' => e=.returned (headA (applyD (lastD s.glob) s.own H))∧Below w.heap.size w w':=by
 obtain ⟨h1,h2⟩:=hr.ownAt ho;exact apply_any _ _ _ _ _ _ _ _ hr.st.ptr (by omega) h1 (fun i _ => Nat.le_trans (glob_len hr.gl hr.ol.1 _) (by decide))
theorem fromD_size {h:HeadV} (h0:(fromD h).2=0):h.size≤1048576:=by
 unfold fromD at h0
 split at h0
 ·rename_i h1;exact absurd h0 h1
 ·split at h0
  ·exact absurd h0 (by decide)
  ·split at h0
   ·rename_i h1;exact absurd h0 h1
   ·split at h0
    ·rename_i h1;exact absurd h0 h1
    ·rename_i h1
     unfold sizeD at h1
     split at h1
     ·exact absurd (by decide) h1
     ·split at h1
      ·exact absurd (by decide) h1
      ·omega
end
end Go.Proofs.YtnpkcneojilmkaaGreatDoor.Mem
end
section
namespace Go.Proofs.YtnpkcneojilmkaaGreatDoor.Mem
open Go.ChangeShapes Go.WideShapes Go.ChangeAt Go.RowKit Go.Shelf Base Byt Txt Bk Mk Hp Head Attr Rec Go.Proofs.YtnpkcneojilmkaaGreatDoor.Mp Go.Lib
set_option linter.unusedVariables false
set_option maxRecDepth 100000
theorem ld_head (w:World) (g:Nat) (h:HeadV) (hb:Blk w g 41 (headC h)):(Instr.loadAt 41 (.pointer (some ⟨g,0,none⟩))).run Tryz.prog w=.ok (.agg (headC h)) w:=by
 have c0:=hb.cell;unfold headC at c0 ⊢
 go_simp
theorem wp_storeHH {o:Oper} {a:Act} {w:World} {K:Act → World → Prop} {Q:Exit → Act → World → Prop} (p x:Operand) (ho:o.op=.store 41 p x) (g:Nat) (hp:a.eval p=.pointer (some ⟨g,0,none⟩)) (h z:HeadV) (hx:a.eval x=.agg (headC h)) (hz:Blk w g 41 (headC z))
 (hK:∀ w',Blk w' g 41 (headC h) → Kept (oneB g) w w' → K (a.put o.dst undef) w'):Oper.wp Tryz.prog o a w K Q:=by
 have h9:=blk9 hz;have f0:=hz.frozen;have c0:=hz.cell;unfold headC at c0
 have k9:Kept (oneB g) w (((((((((w.setCell ⟨g,0,none⟩ (.string (str h.name))).setCell ⟨g,1,none⟩ (.string (str h.link))).setCell ⟨g,2,none⟩ (.int .u8 (h.kind.toNat:Int))).setCell ⟨g,3,none⟩ (.int .i64 h.mode)).setCell ⟨g,4,none⟩ (.int .i64 h.uid)).setCell ⟨g,5,none⟩ (.int .i64 h.gid)).setCell ⟨g,6,none⟩ (.int .i64 h.time)).setCell ⟨g,7,none⟩ (.int .i64 h.size)).setCell ⟨g,8,none⟩ (.bool h.gnu)):=
  (((((((((Kept.refl (oneB g) w).setCell (a:=⟨g,0,none⟩) (.inr rfl) _).setCell (a:=⟨g,1,none⟩) (.inr rfl) _).setCell (a:=⟨g,2,none⟩) (.inr rfl) _).setCell (a:=⟨g,3,none⟩) (.inr rfl) _).setCell (a:=⟨g,4,none⟩) (.inr rfl) _).setCell (a:=⟨g,5,none⟩) (.inr rfl) _).setCell (a:=⟨g,6,none⟩) (.inr rfl) _).setCell (a:=⟨g,7,none⟩) (.inr rfl) _).setCell (a:=⟨g,8,none⟩) (.inr rfl) _
 clear hz
 have hr:(execOp a.eval o).run Tryz.prog w=.ok .skip (((((((((w.setCell ⟨g,0,none⟩ (.string (str h.name))).setCell ⟨g,1,none⟩ (.string (str h.link))).setCell ⟨g,2,none⟩ (.int .u8 (h.kind.toNat:Int))).setCell ⟨g,3,none⟩ (.int .i64 h.mode)).setCell ⟨g,4,none⟩ (.int .i64 h.uid)).setCell ⟨g,5,none⟩ (.int .i64 h.gid)).setCell ⟨g,6,none⟩ (.int .i64 h.time)).setCell ⟨g,7,none⟩ (.int .i64 h.size)).setCell ⟨g,8,none⟩ (.bool h.gnu)):=by
  unfold headC at hx;generalize a.eval=ev at hp hx;simp [go_sem,execOp,ho,hp,hx,c0,f0,Result.andThen]
 unfold Oper.wp;rw [hr,Oper.upon_skip];exact hK _ (h9 _ _ _ _ _ _ _ _ _) k9
noncomputable def add5Ops:Array Oper:=regionAt Tryz.f56 5
def add5V (r gs mw bx:Nat) (h h':HeadV) (oq:Option Addr) (on oc:Nat) (ah:HeadV) (ae:Int):Nat → Value
 | 0 => .pointer (some ⟨r,0,none⟩) | 1 => .pointer (some ⟨r,0,none⟩) | 2 => .pointer (some ⟨r,1,none⟩) | 3 => .pointer (some ⟨gs,0,none⟩) | 4 => .pointer (some ⟨r,0,none⟩) | 5 => .agg (headC h) | 6 => .agg (headC h') | 7 => .pointer (some ⟨r,0,none⟩) | 8 => .pointer (some ⟨r,0,none⟩) | 9 => .pointer (some ⟨r,2,none⟩) | 10 => .map (some mw) | 11 => .agg #[.string ⟨#[]⟩,.slice oq on oc] | 12 => .slice oq on oc | 13 => .tuple #[.agg (headC ah),.int .i64 ae] | 14 => .tuple #[.agg (headC ah),.int .i64 ae] | 15 => .agg (headC ah) | 16 => .int .i64 ae | 18 => .int .i64 ae | _ => undef
theorem add5_size:add5Ops.size=19:=rfl
theorem add5_apart:apartG add5Ops 73=true:=by kernel_rfl
theorem add5_dst0:dstAt add5Ops 0=some 18:=rfl
theorem add5_op0:∃ o,add5Ops[0]? = some o∧o.op=.move (.tmp 0)∧o.dst=some 18:=⟨_,rfl,rfl,rfl⟩
theorem add5_dst1:dstAt add5Ops 1=some 19:=rfl
theorem add5_op1:∃ o,add5Ops[1]? = some o∧o.op=.nilCheck (.tmp 18)∧o.dst=some 19:=⟨_,rfl,rfl,rfl⟩
theorem add5_dst2:dstAt add5Ops 2=some 20:=rfl
theorem add5_op2:∃ o,add5Ops[2]? = some o∧o.op=.fieldAddr 74 (.tmp 19) 1∧o.dst=some 20:=⟨_,rfl,rfl,rfl⟩
theorem add5_dst3:dstAt add5Ops 3=some 21:=rfl
theorem add5_op3:∃ o,add5Ops[3]? = some o∧o.op=.load 71 (.tmp 20)∧o.dst=some 21:=⟨_,rfl,rfl,rfl⟩
theorem add5_dst4:dstAt add5Ops 4=some 22:=rfl
theorem add5_op4:∃ o,add5Ops[4]? = some o∧o.op=.move (.tmp 0)∧o.dst=some 22:=⟨_,rfl,rfl,rfl⟩
theorem add5_dst5:dstAt add5Ops 5=some 23:=rfl
theorem add5_op5:∃ o,add5Ops[5]? = some o∧o.op=.load 41 (.tmp 3)∧o.dst=some 23:=⟨_,rfl,rfl,rfl⟩
theorem add5_dst6:dstAt add5Ops 6=some 24:=rfl
theorem add5_op6:∃ o,add5Ops[6]? = some o∧o.op=.call { callee:=.value (.func 84),args:=#[.tmp 22,.tmp 23],argTypes:=#[67,41] }∧o.dst=some 24:=⟨_,rfl,rfl,rfl⟩
theorem add5_dst7:dstAt add5Ops 7=some 25:=rfl
theorem add5_op7:∃ o,add5Ops[7]? = some o∧o.op=.move (.tmp 0)∧o.dst=some 25:=⟨_,rfl,rfl,rfl⟩
theorem add5_dst8:dstAt add5Ops 8=some 26:=rfl
theorem add5_op8:∃ o,add5Ops[8]? = some o∧o.op=.nilCheck (.tmp 25)∧o.dst=some 26:=⟨_,rfl,rfl,rfl⟩
theorem add5_dst9:dstAt add5Ops 9=some 27:=rfl
theorem add5_op9:∃ o,add5Ops[9]? = some o∧o.op=.fieldAddr 74 (.tmp 26) 2∧o.dst=some 27:=⟨_,rfl,rfl,rfl⟩
theorem add5_dst10:dstAt add5Ops 10=some 28:=rfl
theorem add5_op10:∃ o,add5Ops[10]? = some o∧o.op=.load 72 (.tmp 27)∧o.dst=some 28:=⟨_,rfl,rfl,rfl⟩
theorem add5_dst11:dstAt add5Ops 11=some 29:=rfl
theorem add5_op11:∃ o,add5Ops[11]? = some o∧o.op=.lookup 72 (.tmp 28) (.const (.int .u8 120)) false∧o.dst=some 29:=⟨_,rfl,rfl,rfl⟩
theorem add5_dst12:dstAt add5Ops 12=some 30:=rfl
theorem add5_op12:∃ o,add5Ops[12]? = some o∧o.op=.field 131 (.tmp 29) 1∧o.dst=some 30:=⟨_,rfl,rfl,rfl⟩
theorem add5_dst13:dstAt add5Ops 13=some 31:=rfl
theorem add5_op13:∃ o,add5Ops[13]? = some o∧o.op=.call { callee:=.value (.func 83),args:=#[.tmp 21,.tmp 24,.tmp 30],argTypes:=#[71,41,106] }∧o.dst=some 31:=⟨_,rfl,rfl,rfl⟩
theorem add5_dst14:dstAt add5Ops 14=some 17:=rfl
theorem add5_op14:∃ o,add5Ops[14]? = some o∧o.op=.move (.tmp 31)∧o.dst=some 17:=⟨_,rfl,rfl,rfl⟩
theorem add5_dst15:dstAt add5Ops 15=some 32:=rfl
theorem add5_op15:∃ o,add5Ops[15]? = some o∧o.op=.extract (.tmp 17) 0∧o.dst=some 32:=⟨_,rfl,rfl,rfl⟩
theorem add5_dst16:dstAt add5Ops 16=some 33:=rfl
theorem add5_op16:∃ o,add5Ops[16]? = some o∧o.op=.extract (.tmp 17) 1∧o.dst=some 33:=⟨_,rfl,rfl,rfl⟩
theorem add5_dst17:dstAt add5Ops 17=none:=rfl
theorem add5_op17:∃ o,add5Ops[17]? = some o∧o.op=.store 41 (.tmp 3) (.tmp 32)∧o.dst=none:=⟨_,rfl,rfl,rfl⟩
theorem add5_dst18:dstAt add5Ops 18=some 5:=rfl
theorem add5_op18:∃ o,add5Ops[18]? = some o∧o.op=.assign (.tmp 33)∧o.dst=some 5:=⟨_,rfl,rfl,rfl⟩
structure W5 (w:World) (bx:Nat) (h ah:HeadV) (listed:Array Bool) (w':World):Prop where
 bel:Below w.heap.size w w'
 bf:listed.getD 17 false=false → Blk w' bx 41 (headC h)
 aft:listed.getD 17 false=true → Blk w' bx 41 (headC ah) ∧ ∀ j,j < 16 → listed.getD j false=true
theorem W5.keep {w w':World} {bx:Nat} {h ah:HeadV} {listed:Array Bool} (hW:W5 w bx h ah listed w') {j:Nat} (hlt:j < listed.size) (hj:j≠17):W5 w bx h ah (listed.setIfInBounds j true) w':=by
 have e:(listed.setIfInBounds j true).getD 17 false=listed.getD 17 false:=by rw [listed_get hlt,if_neg (Ne.symm hj)]
 refine ⟨hW.bel,fun hx => hW.bf (by rw [← e];exact hx),fun hx => ⟨(hW.aft (by rw [← e];exact hx)).1,fun i hi => ?_⟩⟩
 rw [listed_get hlt]
 split
 ·rfl
 ·exact (hW.aft (by rw [← e];exact hx)).2 i hi
theorem W5.not {w w':World} {bx:Nat} {h ah:HeadV} {listed:Array Bool} (hW:W5 w bx h ah listed w') {j:Nat} (hj:j < 16) (hlf:listed.getD j false=false):listed.getD 17 false=false:=by
 cases hx:listed.getD 17 false with
 | false => rfl
 | true => rw [(hW.aft hx).2 j hj] at hlf;cases hlf
theorem W5.call {w w' w2:World} {bx:Nat} {h ah:HeadV} {listed:Array Bool} (hW:W5 w bx h ah listed w') {j:Nat} (hlt:j < listed.size) (hj:j < 16) (hlf:listed.getD j false=false) (hb:Below w'.heap.size w' w2):W5 w bx h ah (listed.setIfInBounds j true) w2:=by
 have hn:=hW.not hj hlf;have e:(listed.setIfInBounds j true).getD 17 false=false:=by rw [listed_get hlt,if_neg (by omega)];exact hn
 refine ⟨hW.bel.trans (hb.mono hW.bel.size),fun _ => (hW.bf hn).below hb (hW.bf hn).lt,fun hx => ?_⟩
 rw [e] at hx
 cases hx
set_option maxHeartbeats 4000000 in
theorem add5_region {Q':Exit → Act → World → Prop} {a0:Act} {w w1:World} (r gs mw bx:Nat) (h h':HeadV) (oq:Option Addr) (on oc:Nat) (ah:HeadV) (ae:Int)
 (hsz:73≤a0.tmps.size) (h0:a0.eval (.tmp 0)=.pointer (some ⟨r,0,none⟩)) (h3:a0.eval (.tmp 3)=.pointer (some ⟨bx,0,none⟩)) (hbx:w.heap.size≤bx) (hb1:Below w.heap.size w w1) (hbox:Blk w1 bx 41 (headC h))
 (hS:∀ wi,Below w.heap.size w wi → (wi.cell? ⟨r,1,none⟩=some (.pointer (some ⟨gs,0,none⟩))∧wi.cell? ⟨r,2,none⟩=some (.map (some mw)))∧(Instr.lookup 72 (.map (some mw)) (.int .u8 120) false).run Tryz.prog wi=.ok (.agg #[.string ⟨#[]⟩,.slice oq on oc]) wi)
 (hren:∀ wi,Below w.heap.size w wi → Calls Tryz.prog 84 #[.pointer (some ⟨r,0,none⟩),.agg (headC h)] wi fun e w' => e=.returned (.agg (headC h'))∧Below wi.heap.size wi w')
 (happ:∀ wi,Below w.heap.size w wi → Calls Tryz.prog 83 #[.pointer (some ⟨gs,0,none⟩),.agg (headC h'),.slice oq on oc] wi fun e w' => e=.returned (.tuple #[.agg (headC ah),.int .i64 ae])∧Below wi.heap.size wi w')
 (hQ:∀ w',Below w.heap.size w w' → Blk w' bx 41 (headC ah) → Q' .normal ((((((((((((((((((a0.put (some 18) (.pointer (some ⟨r,0,none⟩))).put (some 19) (.pointer (some ⟨r,0,none⟩))).put (some 20) (.pointer (some ⟨r,1,none⟩))).put (some 21) (.pointer (some ⟨gs,0,none⟩))).put (some 22) (.pointer (some ⟨r,0,none⟩))).put (some 23) (.agg (headC h))).put (some 24) (.agg (headC h'))).put (some 25) (.pointer (some ⟨r,0,none⟩))).put (some 26) (.pointer (some ⟨r,0,none⟩))).put (some 27) (.pointer (some ⟨r,2,none⟩))).put (some 28) (.map (some mw))).put (some 29) (.agg #[.string ⟨#[]⟩,.slice oq on oc])).put (some 30) (.slice oq on oc)).put (some 31) (.tuple #[.agg (headC ah),.int .i64 ae])).put (some 17) (.tuple #[.agg (headC ah),.int .i64 ae])).put (some 32) (.agg (headC ah))).put (some 33) (.int .i64 ae)).put (some 5) (.int .i64 ae)) w') :
 wpAny Tryz.prog .any add5Ops Q' add5Ops.size (Array.replicate add5Ops.size false) a0 w1.drew:=by
 have no:∀ j,(Array.replicate add5Ops.size false).getD j false=false:=fun j => by
  rw [Array.getD_eq_getD_getElem?,Array.getElem?_replicate]
  split<;>rfl
 refine wpAny_ghost (Γ:=Unit) (fun _ => add5V r gs mw bx h h' oq on oc ah ae) () a0 (fun _ listed w' => W5 w bx h ah listed w') 73 add5_apart hsz ?_ ?_ ?_
 ·intro γ listed a w' j o hRI ho hun hdep
  have hlt:=lt_of_unlisted hun;have hW:=hRI.wd
  have hj:j < 19:=by
   have:=(Array.getElem?_eq_some_iff.1 ho).1
   rwa [add5_size] at this
  have same:∀ {j':Nat} {o':Oper},add5Ops[j']? = some o' → j=j' → o'=o:=fun {j' o'} h' e => by subst e;exact Option.some.inj (h'.symm.trans ho)
  have hlf:=getD_flip hun;have hne:∀ i,listed.getD i false=true → i≠j:=fun i hi e => by rw [e,hlf] at hi;cases hi
  rcases (show j=0 ∨ j=1 ∨ j=2 ∨ j=3 ∨ j=4 ∨ j=5 ∨ j=6 ∨ j=7 ∨ j=8 ∨ j=9 ∨ j=10 ∨ j=11 ∨ j=12 ∨ j=13 ∨ j=14 ∨ j=15 ∨ j=16 ∨ j=17 ∨ j=18 by omega) with rfl | rfl | rfl | rfl | rfl | rfl | rfl | rfl | rfl | rfl | rfl | rfl | rfl | rfl | rfl | rfl | rfl | rfl | rfl
  ·obtain ⟨o',ho',hop,hdst⟩:=add5_op0
   obtain rfl:=same ho' rfl;have e0:a.eval (.tmp 0)=.pointer (some ⟨r,0,none⟩):=(hRI.old (t:=0) (by kernel_rfl)).trans h0
   exact wp_move _ _ (Or.inl hop) e0 ⟨γ,fun _ _ => rfl,rfl,hW.keep hlt (by decide)⟩
  ·obtain ⟨o',ho',hop,hdst⟩:=add5_op1
   obtain rfl:=same ho' rfl;have e0:a.eval (.tmp 18)=.pointer (some ⟨r,0,none⟩):=(hRI.get ho hdep (i:=0) (d:=18) (by kernel_rfl) rfl)
   refine wp_run _ ?_ ⟨γ,fun _ _ => rfl,rfl,hW.keep hlt (by decide)⟩
   generalize a.eval=ev at e0 ⊢;simp [go_sem,execOp,hop,e0,add5V]
  ·obtain ⟨o',ho',hop,hdst⟩:=add5_op2
   obtain rfl:=same ho' rfl;have e0:a.eval (.tmp 19)=.pointer (some ⟨r,0,none⟩):=(hRI.get ho hdep (i:=1) (d:=19) (by kernel_rfl) rfl)
   refine wp_run _ ?_ ⟨γ,fun _ _ => rfl,rfl,hW.keep hlt (by decide)⟩
   generalize a.eval=ev at e0 ⊢;simp [go_sem,execOp,hop,e0,add5V]
  ·obtain ⟨o',ho',hop,hdst⟩:=add5_op3
   obtain rfl:=same ho' rfl;have e0:a.eval (.tmp 20)=.pointer (some ⟨r,1,none⟩):=(hRI.get ho hdep (i:=2) (d:=20) (by kernel_rfl) rfl)
   have q:=(hS w' hW.bel).1.1;refine wp_run _ ?_ ⟨γ,fun _ _ => rfl,rfl,hW.keep hlt (by decide)⟩
   generalize a.eval=ev at e0 ⊢;simp [go_sem,execOp,hop,e0,q,add5V]
  ·obtain ⟨o',ho',hop,hdst⟩:=add5_op4
   obtain rfl:=same ho' rfl;have e0:a.eval (.tmp 0)=.pointer (some ⟨r,0,none⟩):=(hRI.old (t:=0) (by kernel_rfl)).trans h0
   exact wp_move _ _ (Or.inl hop) e0 ⟨γ,fun _ _ => rfl,rfl,hW.keep hlt (by decide)⟩
  ·obtain ⟨o',ho',hop,hdst⟩:=add5_op5
   obtain rfl:=same ho' rfl;have e0:a.eval (.tmp 3)=.pointer (some ⟨bx,0,none⟩):=(hRI.old (t:=3) (by kernel_rfl)).trans h3
   refine wp_run _ ?_ ⟨γ,fun _ _ => rfl,rfl,hW.keep hlt (by decide)⟩
   have q:=ld_head w' bx h (hW.bf (hW.not (by omega) hlf))
   simp [execOp,hop,e0,q,Result.andThen,add5V]
  ·obtain ⟨o',ho',hop,hdst⟩:=add5_op6
   obtain rfl:=same ho' rfl;have e0:a.eval (.tmp 22)=.pointer (some ⟨r,0,none⟩):=(hRI.get ho hdep (i:=4) (d:=22) (by kernel_rfl) rfl)
   have e1:a.eval (.tmp 23)=.agg (headC h):=(hRI.get ho hdep (i:=5) (d:=23) (by kernel_rfl) rfl)
   refine wp_call _ _ _ hop #[.pointer (some ⟨r,0,none⟩),.agg (headC h)] (by simp [e0,e1]) (enters_of Tryz.func84 (by kernel_rfl) rfl) _ _ (hren w' hW.bel) (fun w2 hb => ⟨γ,fun _ _ => rfl,rfl,hW.call hlt (by omega) hlf hb⟩)
  ·obtain ⟨o',ho',hop,hdst⟩:=add5_op7
   obtain rfl:=same ho' rfl;have e0:a.eval (.tmp 0)=.pointer (some ⟨r,0,none⟩):=(hRI.old (t:=0) (by kernel_rfl)).trans h0
   exact wp_move _ _ (Or.inl hop) e0 ⟨γ,fun _ _ => rfl,rfl,hW.keep hlt (by decide)⟩
  ·obtain ⟨o',ho',hop,hdst⟩:=add5_op8
   obtain rfl:=same ho' rfl;have e0:a.eval (.tmp 25)=.pointer (some ⟨r,0,none⟩):=(hRI.get ho hdep (i:=7) (d:=25) (by kernel_rfl) rfl)
   refine wp_run _ ?_ ⟨γ,fun _ _ => rfl,rfl,hW.keep hlt (by decide)⟩
   generalize a.eval=ev at e0 ⊢;simp [go_sem,execOp,hop,e0,add5V]
  ·obtain ⟨o',ho',hop,hdst⟩:=add5_op9
   obtain rfl:=same ho' rfl;have e0:a.eval (.tmp 26)=.pointer (some ⟨r,0,none⟩):=(hRI.get ho hdep (i:=8) (d:=26) (by kernel_rfl) rfl)
   refine wp_run _ ?_ ⟨γ,fun _ _ => rfl,rfl,hW.keep hlt (by decide)⟩
   generalize a.eval=ev at e0 ⊢;simp [go_sem,execOp,hop,e0,add5V]
  ·obtain ⟨o',ho',hop,hdst⟩:=add5_op10
   obtain rfl:=same ho' rfl;have e0:a.eval (.tmp 27)=.pointer (some ⟨r,2,none⟩):=(hRI.get ho hdep (i:=9) (d:=27) (by kernel_rfl) rfl)
   have q:=(hS w' hW.bel).1.2;refine wp_run _ ?_ ⟨γ,fun _ _ => rfl,rfl,hW.keep hlt (by decide)⟩
   generalize a.eval=ev at e0 ⊢;simp [go_sem,execOp,hop,e0,q,add5V]
  ·obtain ⟨o',ho',hop,hdst⟩:=add5_op11
   obtain rfl:=same ho' rfl;have e0:a.eval (.tmp 28)=.map (some mw):=(hRI.get ho hdep (i:=10) (d:=28) (by kernel_rfl) rfl)
   exact wp_look _ _ _ hop _ _ _ e0 (evalC a _) (hS w' hW.bel).2 ⟨γ,fun _ _ => rfl,rfl,hW.keep hlt (by decide)⟩
  ·obtain ⟨o',ho',hop,hdst⟩:=add5_op12
   obtain rfl:=same ho' rfl;have e0:a.eval (.tmp 29)=.agg #[.string ⟨#[]⟩,.slice oq on oc]:=(hRI.get ho hdep (i:=11) (d:=29) (by kernel_rfl) rfl)
   refine wp_run _ ?_ ⟨γ,fun _ _ => rfl,rfl,hW.keep hlt (by decide)⟩
   have q:=ext_field w' ⟨#[]⟩ oq on oc;simp [execOp,hop,e0,q,Result.andThen,add5V]
  ·obtain ⟨o',ho',hop,hdst⟩:=add5_op13
   obtain rfl:=same ho' rfl;have e0:a.eval (.tmp 21)=.pointer (some ⟨gs,0,none⟩):=(hRI.get ho hdep (i:=3) (d:=21) (by kernel_rfl) rfl)
   have e1:a.eval (.tmp 24)=.agg (headC h'):=(hRI.get ho hdep (i:=6) (d:=24) (by kernel_rfl) rfl)
   have e2:a.eval (.tmp 30)=.slice oq on oc:=(hRI.get ho hdep (i:=12) (d:=30) (by kernel_rfl) rfl)
   refine wp_call _ _ _ hop #[.pointer (some ⟨gs,0,none⟩),.agg (headC h'),.slice oq on oc] (by simp [e0,e1,e2]) (enters_of Tryz.func83 (by kernel_rfl) rfl) _ _ (happ w' hW.bel) (fun w2 hb => ⟨γ,fun _ _ => rfl,rfl,hW.call hlt (by omega) hlf hb⟩)
  ·obtain ⟨o',ho',hop,hdst⟩:=add5_op14
   obtain rfl:=same ho' rfl;have e0:a.eval (.tmp 31)=.tuple #[.agg (headC ah),.int .i64 ae]:=(hRI.get ho hdep (i:=13) (d:=31) (by kernel_rfl) rfl)
   exact wp_move _ _ (Or.inl hop) e0 ⟨γ,fun _ _ => rfl,rfl,hW.keep hlt (by decide)⟩
  ·obtain ⟨o',ho',hop,hdst⟩:=add5_op15
   obtain rfl:=same ho' rfl;have e0:a.eval (.tmp 17)=.tuple #[.agg (headC ah),.int .i64 ae]:=(hRI.get ho hdep (i:=14) (d:=17) (by kernel_rfl) rfl)
   refine wp_run _ ?_ ⟨γ,fun _ _ => rfl,rfl,hW.keep hlt (by decide)⟩
   generalize a.eval=ev at e0 ⊢;simp [go_sem,execOp,hop,e0,add5V]
  ·obtain ⟨o',ho',hop,hdst⟩:=add5_op16
   obtain rfl:=same ho' rfl;have e0:a.eval (.tmp 17)=.tuple #[.agg (headC ah),.int .i64 ae]:=(hRI.get ho hdep (i:=14) (d:=17) (by kernel_rfl) rfl)
   refine wp_run _ ?_ ⟨γ,fun _ _ => rfl,rfl,hW.keep hlt (by decide)⟩
   generalize a.eval=ev at e0 ⊢;simp [go_sem,execOp,hop,e0,add5V]
  ·obtain ⟨o',ho',hop,hdst⟩:=add5_op17
   obtain rfl:=same ho' rfl;have e0:a.eval (.tmp 3)=.pointer (some ⟨bx,0,none⟩):=(hRI.old (t:=3) (by kernel_rfl)).trans h3
   have e1:a.eval (.tmp 32)=.agg (headC ah):=(hRI.get ho hdep (i:=15) (d:=32) (by kernel_rfl) rfl)
   have all:∀ j,j < 16 → listed.getD j false=true:=fun j hj => by
    rcases (show j=0 ∨ j=1 ∨ j=2 ∨ j=3 ∨ j=4 ∨ j=5 ∨ j=6 ∨ j=7 ∨ j=8 ∨ j=9 ∨ j=10 ∨ j=11 ∨ j=12 ∨ j=13 ∨ j=14 ∨ j=15 by omega) with rfl | rfl | rfl | rfl | rfl | rfl | rfl | rfl | rfl | rfl | rfl | rfl | rfl | rfl | rfl | rfl<;>exact dep_listed ho hdep (by kernel_rfl)
   refine wp_storeHH _ _ hop bx e0 ah h e1 (hW.bf hlf) (fun w2 hb2 hk => ⟨γ,fun _ _ => rfl,rfl,⟨hW.bel.trans (hk.below hW.bel.size (fun k hk => by rw [show k=bx from hk];exact hbx)),fun hx => ?_,fun _ => ⟨hb2,fun j hj => ?_⟩⟩⟩)
   ·rw [listed_get hlt,if_pos rfl] at hx
    cases hx
   ·rw [listed_get hlt]
    split
    ·rfl
    ·exact all j hj
  ·obtain ⟨o',ho',hop,hdst⟩:=add5_op18
   obtain rfl:=same ho' rfl;have e0:a.eval (.tmp 33)=.int .i64 ae:=(hRI.get ho hdep (i:=16) (d:=33) (by kernel_rfl) rfl)
   exact wp_move _ _ (Or.inr hop) e0 ⟨γ,fun _ _ => rfl,rfl,hW.keep hlt (by decide)⟩
 ·intro γ listed a w' hRI hall
  have all:∀ j,j < 19 → listed.getD j false=true:=fun j hj => hall j (by rw [add5_size];exact hj)
  have hW:=hRI.wd;rw [done_putAllG 73 add5_apart hsz hRI hall,add5_size];simp only [putAll,add5_dst0,add5_dst1,add5_dst2,add5_dst3,add5_dst4,add5_dst5,add5_dst6,add5_dst7,add5_dst8,add5_dst9,add5_dst10,add5_dst11,add5_dst12,add5_dst13,add5_dst14,add5_dst15,add5_dst16,add5_dst17,add5_dst18,put_none,add5V];exact hQ w' hW.bel (hW.aft (all 17 (by omega))).1
 ·exact ⟨hb1.drew,fun _ => hbox.drew,fun hx => by rw [no] at hx;cases hx⟩
end Go.Proofs.YtnpkcneojilmkaaGreatDoor.Mem
end
section
namespace Go.Proofs.YtnpkcneojilmkaaGreatDoor.Mem
open Go.ChangeShapes Go.WideShapes Go.ChangeAt Go.RowKit Go.Shelf Base Byt Txt Bk Mk Block Hp Head Attr Rec Go.Proofs.YtnpkcneojilmkaaGreatDoor.Mp Go.Lib
set_option linter.unusedVariables false
set_option maxRecDepth 100000
theorem ld_mem (w:World) (g:Nat) (y:MP) (hb:Blk w g 26 y.cs):(Instr.loadAt 26 (.pointer (some ⟨g,0,none⟩))).run Tryz.prog w=.ok (.agg y.cs) w:=by
 have c0:=hb.cell;unfold MP.cs memC at c0 ⊢
 go_simp
theorem bs_mem (w:World) (a b:ByteArray) (k m u i t:Int) (p:Option Addr) (n c:Nat):(Instr.buildSlice 32 1 #[(0,.agg #[.string a,.string b,.int .u8 k,.int .i64 m,.int .i64 u,.int .i64 i,.int .i64 t,.slice p n c])]).run Tryz.prog w =
 .ok (.slice (some ⟨w.heap.size,0,none⟩) 1 1) (w.alloc (.cells #[.string a,.string b,.int .u8 k,.int .i64 m,.int .i64 u,.int .i64 i,.int .i64 t,.slice p n c] 26)):=by kernel_rfl
theorem bs_memY (w:World) (y:MP):(Instr.buildSlice 32 1 #[(0,.agg y.cs)]).run Tryz.prog w=.ok (.slice (some ⟨w.heap.size,0,none⟩) 1 1) (w.alloc (.cells y.cs 26)):=bs_mem w _ _ _ _ _ _ _ _ _ _
theorem wp_append_member {w:World} {o:Oper} {b:Act} {Kk:Act → World → Prop} {Q:Exit → Act → World → Prop} (x y:Operand)
 (ho:o.op=.call { callee:=.builtin .append,args:=#[x,y],argTypes:=#[32,32] })
 (base:Nat) (v:Value) (xs:List MP) (hs:b.eval x=v) (hown:w.ownsRow base 26 8 v xs.length (flatM xs))
 (g:Nat) (d:Nat) (z:MP) (hx:b.eval y=.slice (some ⟨g,0,none⟩) 1 d) (hb:Blk w g 26 z.cs) (hsum:xs.length≤1000000) (hbase:base≤w.heap.size)
 (h:∀ v' w',w'.ownsRow base 26 8 v' (xs++[z]).length (flatM (xs++[z])) → w.grownBy w' v.ownBlock → NewOr w v v' → Kk (b.put o.dst v') w'):Oper.wp Tryz.prog o b w Kk Q:=by
 obtain ⟨i0,hi,hz0,hz1,hz2⟩:=info_parts infoMem
 obtain ⟨v',w',hr,h2,h3,h4⟩:=run_append_newS (P:=Tryz.prog) base 32 o.type 26 i0 _ 8 96 Tryz.underlying32 hi hz0 hz1 hz2 rfl (by decide) v xs.length (flatM xs) hown ⟨g,0,none⟩ 1 d z.cs.toList rfl (by
  intro j u hj;rw [WideShapes.add_plain,Nat.zero_add,hb.cell,← Array.getElem?_toList]
  exact hj) (fun u hu => flatM_one [z] u (by simpa [flatM] using hu)) (by unfold maxLen;omega) (by omega) hbase
 have hr2:(execOp b.eval o).run Tryz.prog w=.ok (.value v') w':=by simp [execOp,ho,resolve,invoke,builtin,hs,hx,hr,Result.andThen]
 unfold Oper.wp;rw [hr2,Oper.upon_value];rw [← flatM_snoc,show xs.length+1=(xs++[z]).length by simp] at h2
 exact h v' w' h2 h3 h4
def AppDone (base:Nat) (v:Value) (xs:List MP) (y:MP) (w1 wB:World) (va:Value):Prop:=
 ∃ wA,Below w1.heap.size w1 wA∧wB.ownsRow base 26 8 va (xs++[y]).length (flatM (xs++[y]))∧wA.grownBy wB v.ownBlock∧NewOr wA v va
noncomputable def add14Ops:Array Oper:=regionAt Tryz.f56 14
structure add14G where
 gb:Nat
 va:Value
def add14V (r bm:Nat) (v:Value) (y:MP) (γ:add14G):Nat → Value
 | 0 => .pointer (some ⟨r,0,none⟩) | 1 => .pointer (some ⟨r,0,none⟩) | 2 => .pointer (some ⟨r,0,none⟩) | 3 => .pointer (some ⟨r,3,none⟩) | 4 => v | 5 => .agg y.cs | 6 => .slice (some ⟨γ.gb,0,none⟩) 1 1 | 7 => γ.va | 8 => .pointer (some ⟨r,0,none⟩) | 9 => .pointer (some ⟨r,3,none⟩) | _ => undef
theorem add14_size:add14Ops.size=11:=rfl
theorem add14_apart:apartG add14Ops 73=true:=by kernel_rfl
theorem add14_dst0:dstAt add14Ops 0=some 59:=rfl
theorem add14_op0:∃ o,add14Ops[0]? = some o∧o.op=.move (.tmp 0)∧o.dst=some 59:=⟨_,rfl,rfl,rfl⟩
theorem add14_dst1:dstAt add14Ops 1=some 60:=rfl
theorem add14_op1:∃ o,add14Ops[1]? = some o∧o.op=.move (.tmp 0)∧o.dst=some 60:=⟨_,rfl,rfl,rfl⟩
theorem add14_dst2:dstAt add14Ops 2=some 61:=rfl
theorem add14_op2:∃ o,add14Ops[2]? = some o∧o.op=.nilCheck (.tmp 60)∧o.dst=some 61:=⟨_,rfl,rfl,rfl⟩
theorem add14_dst3:dstAt add14Ops 3=some 62:=rfl
theorem add14_op3:∃ o,add14Ops[3]? = some o∧o.op=.fieldAddr 74 (.tmp 61) 3∧o.dst=some 62:=⟨_,rfl,rfl,rfl⟩
theorem add14_dst4:dstAt add14Ops 4=some 63:=rfl
theorem add14_op4:∃ o,add14Ops[4]? = some o∧o.op=.load 32 (.tmp 62)∧o.dst=some 63:=⟨_,rfl,rfl,rfl⟩
theorem add14_dst5:dstAt add14Ops 5=some 64:=rfl
theorem add14_op5:∃ o,add14Ops[5]? = some o∧o.op=.load 26 (.tmp 6)∧o.dst=some 64:=⟨_,rfl,rfl,rfl⟩
theorem add14_dst6:dstAt add14Ops 6=some 65:=rfl
theorem add14_op6:∃ o,add14Ops[6]? = some o∧o.op=.buildSlice 32 1 #[(0,.tmp 64)]∧o.dst=some 65:=⟨_,rfl,rfl,rfl⟩
theorem add14_dst7:dstAt add14Ops 7=some 66:=rfl
theorem add14_op7:∃ o,add14Ops[7]? = some o∧o.op=.call { callee:=.builtin .append,args:=#[.tmp 63,.tmp 65],argTypes:=#[32,32] }∧o.dst=some 66:=⟨_,rfl,rfl,rfl⟩
theorem add14_dst8:dstAt add14Ops 8=some 67:=rfl
theorem add14_op8:∃ o,add14Ops[8]? = some o∧o.op=.nilCheck (.tmp 59)∧o.dst=some 67:=⟨_,rfl,rfl,rfl⟩
theorem add14_dst9:dstAt add14Ops 9=some 68:=rfl
theorem add14_op9:∃ o,add14Ops[9]? = some o∧o.op=.fieldAddr 74 (.tmp 67) 3∧o.dst=some 68:=⟨_,rfl,rfl,rfl⟩
theorem add14_dst10:dstAt add14Ops 10=none:=rfl
theorem add14_op10:∃ o,add14Ops[10]? = some o∧o.op=.store 32 (.tmp 68) (.tmp 66)∧o.dst=none:=⟨_,rfl,rfl,rfl⟩
theorem add14V_gb (r bm:Nat) (v:Value) (y:MP) (γ:add14G) (x:Nat) {i:Nat} (h:i≠6):add14V r bm v y { γ with gb:=x } i=add14V r bm v y γ i:=by
 unfold add14V
 split<;>first | rfl | (exfalso;omega)
theorem add14V_va (r bm:Nat) (v:Value) (y:MP) (γ:add14G) (x:Value) {i:Nat} (h:i≠7):add14V r bm v y { γ with va:=x } i=add14V r bm v y γ i:=by
 unfold add14V
 split<;>first | rfl | (exfalso;omega)
structure W14 (base r:Nat) (v:Value) (xs:List MP) (y:MP) (w1:World) (γ:add14G) (listed:Array Bool) (w':World):Prop where
 pre:listed.getD 7 false=false → Below w1.heap.size w1 w'
 bs:listed.getD 6 false=true → listed.getD 7 false=false → Blk w' γ.gb 26 y.cs
 ap:listed.getD 7 false=true → listed.getD 10 false=false → AppDone base v xs y w1 w' γ.va
 st:listed.getD 10 false=true → ∃ wB,AppDone base v xs y w1 wB γ.va∧w'=wB.setCell ⟨r,3,none⟩ γ.va
 c7:listed.getD 7 false=true → listed.getD 4 false=true∧listed.getD 6 false=true
 c6:listed.getD 6 false=true → listed.getD 5 false=true
 c10:listed.getD 10 false=true → listed.getD 7 false=true
theorem W14.keep {base r:Nat} {v:Value} {xs:List MP} {y:MP} {w1 w':World} {γ:add14G} {listed:Array Bool} (hW:W14 base r v xs y w1 γ listed w') {j:Nat} (hlt:j < listed.size) (hj:j≠6∧j≠7∧j≠10):W14 base r v xs y w1 γ (listed.setIfInBounds j true) w':=by
 have e6:(listed.setIfInBounds j true).getD 6 false=listed.getD 6 false:=by rw [listed_get hlt,if_neg (by omega)]
 have e7:(listed.setIfInBounds j true).getD 7 false=listed.getD 7 false:=by rw [listed_get hlt,if_neg (by omega)]
 have e10:(listed.setIfInBounds j true).getD 10 false=listed.getD 10 false:=by rw [listed_get hlt,if_neg (by omega)]
 have up:∀ i,listed.getD i false=true → (listed.setIfInBounds j true).getD i false=true:=fun i hi => by
  rw [listed_get hlt]
  split
  ·rfl
  ·exact hi
 exact ⟨by rw [e7];exact hW.pre,by rw [e6,e7];exact hW.bs,by rw [e7,e10];exact hW.ap,by rw [e10];exact hW.st,fun h => ⟨up _ (hW.c7 (by rw [← e7];exact h)).1,up _ (hW.c7 (by rw [← e7];exact h)).2⟩,fun h => up _ (hW.c6 (by rw [← e6];exact h)),by rw [e7,e10];exact hW.c10⟩
theorem W14.not7 {base r:Nat} {v:Value} {xs:List MP} {y:MP} {w1 w':World} {γ:add14G} {listed:Array Bool} (hW:W14 base r v xs y w1 γ listed w') {j:Nat} (hj:j=4 ∨ j=5 ∨ j=6) (hlf:listed.getD j false=false):listed.getD 7 false=false:=by
 cases hx:listed.getD 7 false with
 | false => rfl
 | true =>
   obtain ⟨h4,h6⟩:=hW.c7 hx;rcases hj with rfl | rfl | rfl
   ·rw [h4] at hlf;cases hlf
   ·rw [hW.c6 h6] at hlf;cases hlf
   ·rw [h6] at hlf;cases hlf
set_option maxHeartbeats 4000000 in
theorem add14_region {Q':Exit → Act → World → Prop} {a0:Act} {w1:World} (base r bm:Nat) (v:Value) (xs:List MP) (y:MP) (cs:Array Value)
 (hsz:73≤a0.tmps.size) (h0:a0.eval (.tmp 0)=.pointer (some ⟨r,0,none⟩)) (h6:a0.eval (.tmp 6)=.pointer (some ⟨bm,0,none⟩)) (hbm:Blk w1 bm 26 y.cs) (hbr:Blk w1 r 74 cs) (hc3:cs[3]? = some v) (hrv:v.ownBlock≠some r)
 (hrow:w1.ownsRow base 26 8 v xs.length (flatM xs)) (hbase:base≤w1.heap.size) (hxs:xs.length≤1000000)
 (hQ:∀ (γ:add14G) wB,AppDone base v xs y w1 wB γ.va → Q' .normal ((((((((((a0.put (some 59) (.pointer (some ⟨r,0,none⟩))).put (some 60) (.pointer (some ⟨r,0,none⟩))).put (some 61) (.pointer (some ⟨r,0,none⟩))).put (some 62) (.pointer (some ⟨r,3,none⟩))).put (some 63) (v)).put (some 64) (.agg y.cs)).put (some 65) (.slice (some ⟨γ.gb,0,none⟩) 1 1)).put (some 66) (γ.va)).put (some 67) (.pointer (some ⟨r,0,none⟩))).put (some 68) (.pointer (some ⟨r,3,none⟩))) (wB.setCell ⟨r,3,none⟩ γ.va)) :
 wpAny Tryz.prog .any add14Ops Q' add14Ops.size (Array.replicate add14Ops.size false) a0 w1.drew:=by
 have no:∀ j,(Array.replicate add14Ops.size false).getD j false=false:=fun j => by
  rw [Array.getD_eq_getD_getElem?,Array.getElem?_replicate]
  split<;>rfl
 refine wpAny_ghost (Γ:=add14G) (add14V r bm v y) { gb:=0,va:=undef } a0 (fun γ listed w' => W14 base r v xs y w1 γ listed w') 73 add14_apart hsz ?_ ?_ ?_
 ·intro γ listed a w' j o hRI ho hun hdep
  have hlt:=lt_of_unlisted hun;have hW:=hRI.wd
  have hj:j < 11:=by
   have:=(Array.getElem?_eq_some_iff.1 ho).1
   rwa [add14_size] at this
  have same:∀ {j':Nat} {o':Oper},add14Ops[j']? = some o' → j=j' → o'=o:=fun {j' o'} h' e => by subst e;exact Option.some.inj (h'.symm.trans ho)
  have hlf:=getD_flip hun;have hne:∀ i,listed.getD i false=true → i≠j:=fun i hi e => by rw [e,hlf] at hi;cases hi
  rcases (show j=0 ∨ j=1 ∨ j=2 ∨ j=3 ∨ j=4 ∨ j=5 ∨ j=6 ∨ j=7 ∨ j=8 ∨ j=9 ∨ j=10 by omega) with rfl | rfl | rfl | rfl | rfl | rfl | rfl | rfl | rfl | rfl | rfl
  ·obtain ⟨o',ho',hop,hdst⟩:=add14_op0
   obtain rfl:=same ho' rfl;have e0:a.eval (.tmp 0)=.pointer (some ⟨r,0,none⟩):=(hRI.old (t:=0) (by kernel_rfl)).trans h0
   exact wp_move _ _ (Or.inl hop) e0 ⟨γ,fun _ _ => rfl,rfl,hW.keep hlt (by decide)⟩
  ·obtain ⟨o',ho',hop,hdst⟩:=add14_op1
   obtain rfl:=same ho' rfl;have e0:a.eval (.tmp 0)=.pointer (some ⟨r,0,none⟩):=(hRI.old (t:=0) (by kernel_rfl)).trans h0
   exact wp_move _ _ (Or.inl hop) e0 ⟨γ,fun _ _ => rfl,rfl,hW.keep hlt (by decide)⟩
  ·obtain ⟨o',ho',hop,hdst⟩:=add14_op2
   obtain rfl:=same ho' rfl;have e0:a.eval (.tmp 60)=.pointer (some ⟨r,0,none⟩):=(hRI.get ho hdep (i:=1) (d:=60) (by kernel_rfl) rfl)
   refine wp_run _ ?_ ⟨γ,fun _ _ => rfl,rfl,hW.keep hlt (by decide)⟩
   generalize a.eval=ev at e0 ⊢;simp [go_sem,execOp,hop,e0,add14V]
  ·obtain ⟨o',ho',hop,hdst⟩:=add14_op3
   obtain rfl:=same ho' rfl;have e0:a.eval (.tmp 61)=.pointer (some ⟨r,0,none⟩):=(hRI.get ho hdep (i:=2) (d:=61) (by kernel_rfl) rfl)
   refine wp_run _ ?_ ⟨γ,fun _ _ => rfl,rfl,hW.keep hlt (by decide)⟩
   generalize a.eval=ev at e0 ⊢;simp [go_sem,execOp,hop,e0,add14V]
  ·obtain ⟨o',ho',hop,hdst⟩:=add14_op4
   obtain rfl:=same ho' rfl;have e0:a.eval (.tmp 62)=.pointer (some ⟨r,3,none⟩):=(hRI.get ho hdep (i:=3) (d:=62) (by kernel_rfl) rfl)
   have hn:=hW.not7 (.inl rfl) hlf;have q:=(hbr.below (hW.pre hn) hbr.lt).cell 3;rw [hc3] at q;refine wp_run _ ?_ ⟨γ,fun _ _ => rfl,rfl,hW.keep hlt (by decide)⟩
   generalize a.eval=ev at e0 ⊢;simp [go_sem,execOp,hop,e0,q,add14V]
  ·obtain ⟨o',ho',hop,hdst⟩:=add14_op5
   obtain rfl:=same ho' rfl;have e0:a.eval (.tmp 6)=.pointer (some ⟨bm,0,none⟩):=(hRI.old (t:=6) (by kernel_rfl)).trans h6
   have hn:=hW.not7 (.inr (.inl rfl)) hlf;refine wp_run _ ?_ ⟨γ,fun _ _ => rfl,rfl,hW.keep hlt (by decide)⟩
   have q:=ld_mem w' bm y (hbm.below (hW.pre hn) hbm.lt);simp [execOp,hop,e0,q,Result.andThen,add14V]
  ·obtain ⟨o',ho',hop,hdst⟩:=add14_op6
   obtain rfl:=same ho' rfl;have e0:a.eval (.tmp 64)=.agg y.cs:=(hRI.get ho hdep (i:=5) (d:=64) (by kernel_rfl) rfl)
   have hn:=hW.not7 (.inr (.inr rfl)) hlf;have q:=bs_memY w' y;have hr:(execOp a.eval o').run Tryz.prog w'=.ok (.value (.slice (some ⟨w'.heap.size,0,none⟩) 1 1)) (w'.alloc (.cells y.cs 26)):=by simp [execOp,hop,e0,q,Result.andThen]
   unfold Oper.wp;rw [hr,Oper.upon_value];have e7:(listed.setIfInBounds 6 true).getD 7 false=listed.getD 7 false:=by rw [listed_get hlt,if_neg (by decide)]
   have e10:(listed.setIfInBounds 6 true).getD 10 false=listed.getD 10 false:=by rw [listed_get hlt,if_neg (by decide)]
   refine ⟨{ γ with gb:=w'.heap.size },fun i hi => add14V_gb _ _ _ _ _ _ (hne i hi),rfl,⟨fun _ => (hW.pre hn).alloc (hW.pre hn).size _,fun _ _ => Blk.new w' _ _,fun hx => ?_,fun hx => ?_,fun hx => ?_,fun _ => (by rw [listed_get hlt,if_neg (by decide)];exact dep_listed ho hdep (by kernel_rfl)),fun hx => ?_⟩⟩
   ·rw [e7,hn] at hx;cases hx
   ·rw [e10] at hx;have:=hW.c10 hx;rw [hn] at this;cases this
   ·rw [e7,hn] at hx;cases hx
   ·rw [e10] at hx;have:=hW.c10 hx;rw [hn] at this;cases this
  ·obtain ⟨o',ho',hop,hdst⟩:=add14_op7
   obtain rfl:=same ho' rfl;have e0:a.eval (.tmp 63)=v:=(hRI.get ho hdep (i:=4) (d:=63) (by kernel_rfl) rfl)
   have e1:a.eval (.tmp 65)=.slice (some ⟨γ.gb,0,none⟩) 1 1:=(hRI.get ho hdep (i:=6) (d:=65) (by kernel_rfl) rfl)
   have l6:listed.getD 6 false=true:=dep_listed ho hdep (by kernel_rfl)
   have hp:=hW.pre hlf;have hbs:=hW.bs l6 hlf;have l4:listed.getD 4 false=true:=dep_listed ho hdep (by kernel_rfl)
   have n10:listed.getD 10 false=false:=by
    cases hx:listed.getD 10 false with
    | false => rfl
    | true => have:=hW.c10 hx;rw [hlf] at this;cases this
   have e10:(listed.setIfInBounds 7 true).getD 10 false=false:=by rw [listed_get hlt,if_neg (by decide)];exact n10
   have e7:(listed.setIfInBounds 7 true).getD 7 false=true:=by rw [listed_get hlt,if_pos rfl]
   refine wp_append_member _ _ hop base v xs e0 (row_below hrow hp) γ.gb 1 y e1 hbs hxs (Nat.le_trans hbase hp.size) (fun v' w2 h1 h2 h3 => ⟨{ γ with va:=v' },fun i hi => add14V_va _ _ _ _ _ _ (hne i hi),rfl,⟨fun hx => ?_,fun _ hx => ?_,fun _ _ => ⟨w',hp,h1,h2,h3⟩,fun hx => ?_,fun _ => ⟨?_,?_⟩,fun _ => ?_,fun hx => ?_⟩⟩)
   ·rw [e7] at hx;cases hx
   ·rw [e7] at hx;cases hx
   ·rw [e10] at hx;cases hx
   ·rw [listed_get hlt,if_neg (by decide)];exact l4
   ·rw [listed_get hlt,if_neg (by decide)];exact l6
   ·rw [listed_get hlt,if_neg (by decide)];exact hW.c6 l6
   ·rw [e10] at hx;cases hx
  ·obtain ⟨o',ho',hop,hdst⟩:=add14_op8
   obtain rfl:=same ho' rfl;have e0:a.eval (.tmp 59)=.pointer (some ⟨r,0,none⟩):=(hRI.get ho hdep (i:=0) (d:=59) (by kernel_rfl) rfl)
   refine wp_run _ ?_ ⟨γ,fun _ _ => rfl,rfl,hW.keep hlt (by decide)⟩
   generalize a.eval=ev at e0 ⊢;simp [go_sem,execOp,hop,e0,add14V]
  ·obtain ⟨o',ho',hop,hdst⟩:=add14_op9
   obtain rfl:=same ho' rfl;have e0:a.eval (.tmp 67)=.pointer (some ⟨r,0,none⟩):=(hRI.get ho hdep (i:=8) (d:=67) (by kernel_rfl) rfl)
   refine wp_run _ ?_ ⟨γ,fun _ _ => rfl,rfl,hW.keep hlt (by decide)⟩
   generalize a.eval=ev at e0 ⊢;simp [go_sem,execOp,hop,e0,add14V]
  ·obtain ⟨o',ho',hop,hdst⟩:=add14_op10
   obtain rfl:=same ho' rfl;have e0:a.eval (.tmp 68)=.pointer (some ⟨r,3,none⟩):=(hRI.get ho hdep (i:=9) (d:=68) (by kernel_rfl) rfl)
   have e1:a.eval (.tmp 66)=γ.va:=(hRI.get ho hdep (i:=7) (d:=66) (by kernel_rfl) rfl)
   have l7:listed.getD 7 false=true:=dep_listed ho hdep (by kernel_rfl)
   have hA:=hW.ap l7 hlf;obtain ⟨wA,g1,g2,g3,g4⟩:=hA;have hb2:Blk w' r 74 cs:=(g3.block r (hbr.below g1 hbr.lt).lt (fun e => hrv e.symm)).trans (hbr.below g1 hbr.lt)
   have c0:=hb2.cell 3;rw [hc3] at c0;have f0:=hb2.frozen 3
   obtain ⟨pv,lv,cv,hva⟩:∃ p l c,γ.va=.slice p l c:=by
    rcases g2.2 with ⟨h,_⟩ | ⟨_,_,_,h,_⟩
    ·exact ⟨_,_,_,h⟩
    ·exact ⟨_,_,_,h⟩
   have hr:(execOp a.eval o').run Tryz.prog w'=.ok .skip (w'.setCell ⟨r,3,none⟩ γ.va):=by
    rw [hva] at e1 ⊢;generalize a.eval=ev at e0 e1 ⊢;simp [go_sem,execOp,hop,e0,e1,c0,f0,Result.andThen]
   unfold Oper.wp;rw [hr,Oper.upon_skip];have e7:(listed.setIfInBounds 10 true).getD 7 false=true:=by rw [listed_get hlt,if_neg (by decide)];exact l7
   have e10:(listed.setIfInBounds 10 true).getD 10 false=true:=by rw [listed_get hlt,if_pos rfl]
   refine ⟨γ,fun _ _ => rfl,rfl,⟨fun hx => ?_,fun _ hx => ?_,fun _ hx => ?_,fun _ => ⟨w',⟨wA,g1,g2,g3,g4⟩,rfl⟩,fun _ => ?_,fun hx => ?_,fun _ => e7⟩⟩
   ·rw [e7] at hx;cases hx
   ·rw [e7] at hx;cases hx
   ·rw [e10] at hx;cases hx
   ·obtain ⟨k4,k6⟩:=hW.c7 l7
    exact ⟨by rw [listed_get hlt,if_neg (by decide)];exact k4,by rw [listed_get hlt,if_neg (by decide)];exact k6⟩
   ·rw [listed_get hlt,if_neg (by decide)] at hx ⊢;exact hW.c6 hx
 ·intro γ listed a w' hRI hall
  have all:∀ j,j < 11 → listed.getD j false=true:=fun j hj => hall j (by rw [add14_size];exact hj)
  obtain ⟨wB,hA,rfl⟩:=hRI.wd.st (all 10 (by omega))
  rw [done_putAllG 73 add14_apart hsz hRI hall,add14_size];simp only [putAll,add14_dst0,add14_dst1,add14_dst2,add14_dst3,add14_dst4,add14_dst5,add14_dst6,add14_dst7,add14_dst8,add14_dst9,add14_dst10,put_none,add14V];exact hQ γ wB hA
 ·exact ⟨fun _ => (Below.refl _ _).drew,fun hx => (by rw [no] at hx;cases hx),fun hx => (by rw [no] at hx;cases hx),fun hx => (by rw [no] at hx;cases hx),fun hx => (by rw [no] at hx;cases hx),fun hx => (by rw [no] at hx;cases hx),fun hx => (by rw [no] at hx;cases hx)⟩
end Go.Proofs.YtnpkcneojilmkaaGreatDoor.Mem
end
section
namespace Go.Proofs.YtnpkcneojilmkaaGreatDoor.Mem
open Go.ChangeShapes Go.WideShapes Go.ChangeAt Go.RowKit Base Byt Txt Bk Mk Block Hp Head Attr Rec Path Go.Lib Go.Shelf
set_option linter.unusedVariables false
set_option maxRecDepth 100000
section
variable {w0 w w':World} {K:RK} {a:Nat} {s:RS} {mb:Option Nat} {v:Value} {xs:List MP} {q:Option Addr} {n c:Nat}
set_option maxHeartbeats 2000000 in
theorem add_full (hr:Rd w0 w K a s mb v xs q n c) (h:HeadV) (hf:s.out.length=4096) :
 Calls Tryz.prog 56 #[.pointer (some ⟨K.r,0,none⟩),.agg (headC h)] w fun e w' => e=.returned (.int .i64 10)∧Below w0.heap.size w0 w':=by
 obtain ⟨vp,vc,hv,_,_,_⟩:=mems_own hr.row hr.bodies;subst hv;have hxl:xs.length=s.out.length:=by have:=congrArg List.length hr.out;simpa using this
 obtain ⟨W1,hW1⟩:∃ W1,w.alloc (.cells (headC h) 41)=W1:=⟨_,rfl⟩;have hB1:Below w.heap.size w W1:=by rw [← hW1];exact (Below.refl _ w).alloc (Nat.le_refl _) _
 have hX1:Blk W1 w.heap.size 41 (headC h):=by rw [← hW1];exact Blk.new w _ _
 have hR1:=hr.below hB1;have x3:=hR1.c3;have HR:=Lib.hid hr;have HB1:=Lib.hid hB1;have HX1:=Lib.hid hX1;have HR1:=Lib.hid hR1;have HXN:=Lib.hid hxl;clear hr hB1 hX1 hR1;rw [hf] at hxl;rw [hxl] at x3;clear hxl
 go_enter Tryz.func56,Tryz.ntmps56
 go_upto_region 1 with fail
 clear hW1
 go_wp2
 go_ret
 exact ⟨rfl,HR1.out.bel⟩
set_option maxHeartbeats 2000000 in
theorem add_odd (hr:Rd w0 w K a s mb v xs q n c) (h:HeadV) (hf:s.out.length < 4096) (hk:knownD h.kind=false) :
 Calls Tryz.prog 56 #[.pointer (some ⟨K.r,0,none⟩),.agg (headC h)] w fun e w' => e=.returned (.int .i64 8)∧Below w0.heap.size w0 w':=by
 obtain ⟨vp,vc,hv,_,_,_⟩:=mems_own hr.row hr.bodies;subst hv;have hxl:xs.length=s.out.length:=by have:=congrArg List.length hr.out;simpa using this
 obtain ⟨W1,hW1⟩:∃ W1,w.alloc (.cells (headC h) 41)=W1:=⟨_,rfl⟩;have hB1:Below w.heap.size w W1:=by rw [← hW1];exact (Below.refl _ w).alloc (Nat.le_refl _) _
 have hX1:Blk W1 w.heap.size 41 (headC h):=by rw [← hW1];exact Blk.new w _ _
 have hR1:=hr.below hB1;have x3:=hR1.c3;have HR:=Lib.hid hr;have HB1:=Lib.hid hB1;have HX1:=Lib.hid hX1;have HR1:=Lib.hid hR1;have HXN:=Lib.hid hxl;clear hr hB1 hX1 hR1;have hnl:((xs.length:Int) == 4096)=false:=by rw [hxl];simpa using (by omega:¬ (s.out.length:Int)=4096)
 clear hxl;have k2:=HX1.out.cell 2;simp only [headC,List.getElem?_toArray,List.getElem?_cons_zero,List.getElem?_cons_succ] at k2;have hkn:=known_any h.kind W1;rw [hk] at hkn
 go_enter Tryz.func56,Tryz.ntmps56
 go_upto_region 1 with fail
 clear hW1
 go_wp2_with fail
 refine hkn.mono ?_
 rintro e w1 ⟨rfl,rfl⟩
 go_wp2
 go_ret
 exact ⟨rfl,HR1.out.bel⟩
set_option maxHeartbeats 4000000 in
theorem add_noapply (hr:Rd w0 w K a s mb v xs q n c) (h:HeadV) (hf:s.out.length < 4096) (hk:knownD h.kind=true) (hae:(applyD (lastD s.glob) s.own (renD h s)).2≠0) :
 Calls Tryz.prog 56 #[.pointer (some ⟨K.r,0,none⟩),.agg (headC h)] w fun e w' => e=.returned (.int .i64 (applyD (lastD s.glob) s.own (renD h s)).2)∧Below w0.heap.size w0 w':=by
 obtain ⟨vp,vc,hv,_,_,_⟩:=mems_own hr.row hr.bodies;subst hv;have hxl:xs.length=s.out.length:=by have:=congrArg List.length hr.out;simpa using this
 obtain ⟨W1,hW1⟩:∃ W1,w.alloc (.cells (headC h) 41)=W1:=⟨_,rfl⟩;have hB1:Below w.heap.size w W1:=by rw [← hW1];exact (Below.refl _ w).alloc (Nat.le_refl _) _
 have hX1:Blk W1 w.heap.size 41 (headC h):=by rw [← hW1];exact Blk.new w _ _
 have hR1:=hr.below hB1;have x3:=hR1.c3;have HR:=Lib.hid hr;have HB1:=Lib.hid hB1;have HX1:=Lib.hid hX1;have HR1:=Lib.hid hR1;have HXN:=Lib.hid hxl;clear hr hB1 hX1 hR1;have hnl:((xs.length:Int) == 4096)=false:=by rw [hxl];simpa using (by omega:¬ (s.out.length:Int)=4096)
 clear hxl;have k2:=HX1.out.cell 2;simp only [headC,List.getElem?_toArray,List.getElem?_cons_zero,List.getElem?_cons_succ] at k2;have hkn:=known_any h.kind W1;rw [hk] at hkn;obtain ⟨⟨oq,on,oc⟩,hov⟩:∃ x,ownV s q n c=x:=⟨_,rfl⟩;obtain ⟨⟨ah,ae⟩,hap⟩:∃ x,applyD (lastD s.glob) s.own (renD h s)=x:=⟨_,rfl⟩
 have HSS:Hid (∀ wi,Rd w0 wi K a s mb (.slice vp xs.length vc) xs q n c → ((wi.cell? ⟨K.r,1,none⟩=some (.pointer (some ⟨K.gs,0,none⟩))∧wi.cell? ⟨K.r,2,none⟩=some (.map (some K.mw)))∧(Instr.lookup 72 (.map (some K.mw)) (.int .u8 120) false).run Tryz.prog wi=.ok (.agg #[.string ⟨#[]⟩,.slice oq on oc]) wi)):=
  Lib.hid (fun wi hi => ⟨⟨hi.c1,hi.c2⟩,look120 hi.map hov⟩)
 have HAP:Hid (∀ wi,Rd w0 wi K a s mb (.slice vp xs.length vc) xs q n c → Calls Tryz.prog 83 #[.pointer (some ⟨K.gs,0,none⟩),.agg (headC (renD h s)),.slice oq on oc] wi fun e w' => e=.returned (.tuple #[.agg (headC ah),.int .i64 ae])∧Below wi.heap.size wi w'):=
  Lib.hid (fun wi hi => by have:=apply_rd h hi hov (renD h s);rw [hap] at this;exact this)
 have HPL:=Lib.hid hap;clear hov hap;rw [HPL.out] at hae ⊢;simp only at hae ⊢;have hnz:(ae != 0)=true:=by simpa using hae
 clear hae
 go_enter Tryz.func56,Tryz.ntmps56
 go_upto_region 1 with fail
 clear hW1
 go_wp2_with fail
 refine hkn.mono ?_
 rintro e w1 ⟨rfl,rfl⟩
 go_upto_region 5 with fail
 refine wp_region_any (by kernel_rfl) (add5_region (w:=w) (w1:=W1) K.r K.gs K.mw w.heap.size h (renD h s) oq on oc ah ae (show 73≤73 from Nat.le_refl 73) rfl rfl (Nat.le_refl _) HB1.out HX1.out (fun wi hb => HSS.out wi (HR.out.below hb)) (fun wi hb => renamed_any h (HR.out.below hb)) (fun wi hb => HAP.out wi (HR.out.below hb)) ?_)
 intro W5 hb5 hx5;have HB5:=Lib.hid hb5;have HX5:=Lib.hid hx5;have HR5:=Lib.hid (HR.out.below hb5);clear hb5 hx5 k2 x3;simp only [Exit.then]
 apply_assumption
 go_wp2
 go_ret
 exact ⟨rfl,HR5.out.bel⟩
set_option maxHeartbeats 4000000 in
theorem add_nofrom (hr:Rd w0 w K a s mb v xs q n c) (h:HeadV) (hf:s.out.length < 4096) (hk:knownD h.kind=true) (hN:Need w0) (h0:0≤h.size) (h1:h.name.length≤1048576) (h2:h.link.length≤1048576) (ah:HeadV) (hae:applyD (lastD s.glob) s.own (renD h s)=(ah,0)) (hfe0:(fromD ah).2≠0) :
 Calls Tryz.prog 56 #[.pointer (some ⟨K.r,0,none⟩),.agg (headC h)] w fun e w' => e=.returned (.int .i64 (fromD ah).2)∧Below w0.heap.size w0 w':=by
 obtain ⟨vp,vc,hv,_,_,_⟩:=mems_own hr.row hr.bodies;subst hv;have hxl:xs.length=s.out.length:=by have:=congrArg List.length hr.out;simpa using this
 obtain ⟨W1,hW1⟩:∃ W1,w.alloc (.cells (headC h) 41)=W1:=⟨_,rfl⟩;have hB1:Below w.heap.size w W1:=by rw [← hW1];exact (Below.refl _ w).alloc (Nat.le_refl _) _
 have hX1:Blk W1 w.heap.size 41 (headC h):=by rw [← hW1];exact Blk.new w _ _
 have hR1:=hr.below hB1;have x3:=hR1.c3;have HR:=Lib.hid hr;have HB1:=Lib.hid hB1;have HX1:=Lib.hid hX1;have HR1:=Lib.hid hR1;have HXN:=Lib.hid hxl;clear hr hB1 hX1 hR1;have hnl:((xs.length:Int) == 4096)=false:=by rw [hxl];simpa using (by omega:¬ (s.out.length:Int)=4096)
 clear hxl;have k2:=HX1.out.cell 2;simp only [headC,List.getElem?_toArray,List.getElem?_cons_zero,List.getElem?_cons_succ] at k2;have hkn:=known_any h.kind W1;rw [hk] at hkn;obtain ⟨⟨oq,on,oc⟩,hov⟩:∃ x,ownV s q n c=x:=⟨_,rfl⟩
 have HSS:Hid (∀ wi,Rd w0 wi K a s mb (.slice vp xs.length vc) xs q n c → ((wi.cell? ⟨K.r,1,none⟩=some (.pointer (some ⟨K.gs,0,none⟩))∧wi.cell? ⟨K.r,2,none⟩=some (.map (some K.mw)))∧(Instr.lookup 72 (.map (some K.mw)) (.int .u8 120) false).run Tryz.prog wi=.ok (.agg #[.string ⟨#[]⟩,.slice oq on oc]) wi)):=
  Lib.hid (fun wi hi => ⟨⟨hi.c1,hi.c2⟩,look120 hi.map hov⟩)
 have HAP:Hid (∀ wi,Rd w0 wi K a s mb (.slice vp xs.length vc) xs q n c → Calls Tryz.prog 83 #[.pointer (some ⟨K.gs,0,none⟩),.agg (headC (renD h s)),.slice oq on oc] wi fun e w' => e=.returned (.tuple #[.agg (headC ah),.int .i64 0])∧Below wi.heap.size wi w'):=
  Lib.hid (fun wi hi => by have:=apply_rd h hi hov (renD h s);rw [hae] at this;exact this)
 have HPL:=Lib.hid hae;clear hov hae
 have HBD:Hid (0≤ah.size∧ah.name.length≤1048576∧ah.link.length≤1048576):=Lib.hid (by
  have:=apply_bd h HR.out h0 h1 h2;rw [HPL.out] at this
  exact this)
 have HND:=Lib.hid hN;clear hN h0 h1 h2;obtain ⟨⟨fm,fe⟩,hfd⟩:∃ x,fromD ah=x:=⟨_,rfl⟩;have hfb:fm.body=[]:=by have:=fromD_body ah;rw [hfd] at this;exact this
 have HFR:Hid (∀ wi,Tabs wi → Calls Tryz.prog 46 #[.agg (headC ah)] wi fun e w' => e=.returned (.tuple #[.agg #[.string (str fm.path),.string (str fm.target),.int .u8 (fm.kind.toNat:Int),.int .i64 fm.mode,.int .i64 fm.uid,.int .i64 fm.gid,.int .i64 fm.time,.slice none 0 0],.int .i64 fe])∧Below wi.heap.size wi w'):=
  Lib.hid (fun wi hT => by
   obtain ⟨_,b1,b2⟩:=HBD.out;have:=fromHead_any ah wi (by omega) (by omega) hT
   rw [hfd] at this;unfold memC at this;simp only [hfb,List.length_nil] at this
   exact this)
 have HFD:=Lib.hid hfd;have HFB:=Lib.hid hfb;clear hfd hfb;rw [HFD.out] at hfe0 ⊢;simp only at hfe0 ⊢;have hnz:(fe != 0)=true:=by simpa using hfe0
 clear hfe0
 go_enter Tryz.func56,Tryz.ntmps56
 go_upto_region 1 with fail
 clear hW1
 go_wp2_with fail
 refine hkn.mono ?_
 rintro e w1 ⟨rfl,rfl⟩
 go_upto_region 5 with fail
 refine wp_region_any (by kernel_rfl) (add5_region (w:=w) (w1:=W1) K.r K.gs K.mw w.heap.size h (renD h s) oq on oc ah 0 (show 73≤73 from Nat.le_refl 73) rfl rfl (Nat.le_refl _) HB1.out HX1.out (fun wi hb => HSS.out wi (HR.out.below hb)) (fun wi hb => renamed_any h (HR.out.below hb)) (fun wi hb => HAP.out wi (HR.out.below hb)) ?_)
 intro W5 hb5 hx5;have HB5:=Lib.hid hb5;have HX5:=Lib.hid hx5;have HR5:=Lib.hid (HR.out.below hb5);clear hb5 hx5 k2 x3;simp only [Exit.then]
 apply_assumption
 have b9:=HX5.out;have c0:=b9.cell 0;have c1:=b9.cell 1;have c2:=b9.cell 2;have c3:=b9.cell 3;have c4:=b9.cell 4;have c5:=b9.cell 5;have c6:=b9.cell 6;have c7:=b9.cell 7;have c8:=b9.cell 8;simp only [headC,List.getElem?_toArray,List.getElem?_cons_zero,List.getElem?_cons_succ] at c0 c1 c2 c3 c4 c5 c6 c7 c8;clear b9
 go_wp2_with fail
 refine (HFR.out _ (HR5.out.need HND.out).tabs).mono ?_
 rintro e w6 ⟨rfl,hb6⟩;have hb7:=hb6.alloc hb6.size (.cells #[.string (str fm.path),.string (str fm.target),.int .u8 (fm.kind.toNat:Int),.int .i64 fm.mode,.int .i64 fm.uid,.int .i64 fm.gid,.int .i64 fm.time,.slice none 0 0] 26);have hm7:=Blk.new w6 26 #[.string (str fm.path),.string (str fm.target),.int .u8 (fm.kind.toNat:Int),.int .i64 fm.mode,.int .i64 fm.uid,.int .i64 fm.gid,.int .i64 fm.time,.slice none 0 0];have hw6:w.heap.size < w6.heap.size:=Nat.lt_of_lt_of_le HX5.out.lt hb6.size;have HX7:=Lib.hid (HX5.out.below hb7 HX5.out.lt);have HR7:=Lib.hid (HR5.out.below hb7)
 have HM7:=Lib.hid hm7;have HW6:=Lib.hid hw6;clear hb6 hb7 hm7 hw6 c0 c1 c2 c3 c4 c5 c6 c7 c8
 go_wp2
 go_ret
 exact ⟨rfl,HR7.out.bel⟩
end
end Go.Proofs.YtnpkcneojilmkaaGreatDoor.Mem
end
section
namespace Go.Proofs.YtnpkcneojilmkaaGreatDoor.Mem
open Go.ChangeShapes Go.WideShapes Go.ChangeAt Go.RowKit Base Byt Txt Bk Mk Block Hp Head Attr Rec Path Go.Lib Go.Shelf
set_option linter.unusedVariables false
set_option maxRecDepth 100000
section
variable {w0 w w':World} {K:RK} {a:Nat} {s:RS} {mb:Option Nat} {v:Value} {xs:List MP} {q:Option Addr} {n c:Nat}
theorem Rd.fresh (h:Rd w0 w K a s mb v xs q n c) {b:Nat} (hb:w.heap.size≤b):¬ Ot K mb v b∧b≠K.g:=by
 obtain ⟨t,hs⟩:=h.src;have h1:=h.blk.lt;have h2:=hs.lt;have h3:=h.st.lt;have h4:=h.map.lt;refine ⟨fun e => ?_,by omega⟩
 rcases e with e | e | e | e | e
 ·omega
 ·omega
 ·omega
 ·have:=h.st.ltB e;omega
 ·have:=(h.row.lt b e).2;omega
theorem Rd.foreign {wo:World} {a0:Nat} (ho:Rd w0 wo K a0 s mb v xs q n c) (h:Rd w0 w K a s mb v xs q n c) (hk:Kept (fun k => wo.heap.size≤k) w w'):Rd w0 w' K a s mb v xs q n c:=by
 obtain ⟨t0,hs0⟩:=ho.src;obtain ⟨t,hs⟩:=h.src;have l1:=ho.blk.lt;have l2:=hs0.lt;have l3:=ho.st.lt;have l4:=ho.map.lt;have l5:=ho.bel.size
 exact {
  bel:=h.bel.trans (hk.below h.bel.size (fun k hk => Nat.le_trans l5 hk))
  blk:=h.blk.keptS hk (by omega)
  src:=⟨t,hs.kept hk (by omega) (fun h0 y hy e => by have:=bat_lt hs0.bat h0 hy;omega) (fun h0 y hy e => by have:=iat_lt hs0.iat h0 hy;omega)⟩
  off:=h.off
  st:=h.st.kept hk (fun k hk' e => by
   rcases hk' with rfl | hk'
   ·omega
   ·have:=ho.st.ltB hk';omega)
  map:=h.map.kept hk (by omega)
  own:=recsAt_kept h.own hk (fun h0 y hy e => by
   obtain ⟨b',o,hq,hlt,_⟩:=ho.own.2 h0;rw [hy] at hq
   cases hq
   have e:wo.heap.size≤b':=e
   omega)
  own0:=h.own0
  row:=ownsRow_kept h.row hk (fun k hk' e => by have:=(ho.row.lt k hk').2;omega)
  out:=h.out
  bodies:=fun x hx => (h.bodies x hx).kept hk (fun h0 y hy e => by have:=bat_lt (ho.bodies x hx).bat h0 hy;omega)
  apart:=h.apart
  sp:=h.sp
  sq:=h.sq
  ne:=h.ne
  neB:=h.neB
  neV:=h.neV
  base:=h.base
  many:=h.many
  gl:=h.gl
  ol:=h.ol
  nl:=h.nl
  ll:=h.ll }
set_option maxHeartbeats 4000000 in
theorem add_short (hr:Rd w0 w K (a+512) s mb v xs q n c) (h:HeadV) (hf:s.out.length < 4096) (hk:knownD h.kind=true) (hN:Need w0) (h0:0≤h.size) (h1:h.name.length≤1048576) (h2:h.link.length≤1048576) (ah:HeadV) (hae:applyD (lastD s.glob) s.own (renD h s)=(ah,0)) (hfe0:(fromD ah).2=0) (k:Nat) (hsz:ah.size=(k:Int)) (hkl:k≤1048576) (hl:K.S.n < a+512+padN k) :
 Calls Tryz.prog 56 #[.pointer (some ⟨K.r,0,none⟩),.agg (headC h)] w fun e w' => e=.returned (.int .i64 2)∧Below w0.heap.size w0 w':=by
 obtain ⟨vp,vc,hv,_,_,_⟩:=mems_own hr.row hr.bodies;subst hv;have hxl:xs.length=s.out.length:=by have:=congrArg List.length hr.out;simpa using this
 obtain ⟨W1,hW1⟩:∃ W1,w.alloc (.cells (headC h) 41)=W1:=⟨_,rfl⟩;have hB1:Below w.heap.size w W1:=by rw [← hW1];exact (Below.refl _ w).alloc (Nat.le_refl _) _
 have hX1:Blk W1 w.heap.size 41 (headC h):=by rw [← hW1];exact Blk.new w _ _
 have hR1:=hr.below hB1;have x3:=hR1.c3;have HR:=Lib.hid hr;have HB1:=Lib.hid hB1;have HX1:=Lib.hid hX1;have HR1:=Lib.hid hR1;have HXN:=Lib.hid hxl;clear hr hB1 hX1 hR1;have hnl:((xs.length:Int) == 4096)=false:=by rw [hxl];simpa using (by omega:¬ (s.out.length:Int)=4096)
 clear hxl;have k2:=HX1.out.cell 2;simp only [headC,List.getElem?_toArray,List.getElem?_cons_zero,List.getElem?_cons_succ] at k2;have hkn:=known_any h.kind W1;rw [hk] at hkn;obtain ⟨⟨oq,on,oc⟩,hov⟩:∃ x,ownV s q n c=x:=⟨_,rfl⟩
 have HSS:Hid (∀ wi,Rd w0 wi K (a+512) s mb (.slice vp xs.length vc) xs q n c → ((wi.cell? ⟨K.r,1,none⟩=some (.pointer (some ⟨K.gs,0,none⟩))∧wi.cell? ⟨K.r,2,none⟩=some (.map (some K.mw)))∧(Instr.lookup 72 (.map (some K.mw)) (.int .u8 120) false).run Tryz.prog wi=.ok (.agg #[.string ⟨#[]⟩,.slice oq on oc]) wi)):=
  Lib.hid (fun wi hi => ⟨⟨hi.c1,hi.c2⟩,look120 hi.map hov⟩)
 have HAP:Hid (∀ wi,Rd w0 wi K (a+512) s mb (.slice vp xs.length vc) xs q n c → Calls Tryz.prog 83 #[.pointer (some ⟨K.gs,0,none⟩),.agg (headC (renD h s)),.slice oq on oc] wi fun e w' => e=.returned (.tuple #[.agg (headC ah),.int .i64 0])∧Below wi.heap.size wi w'):=
  Lib.hid (fun wi hi => by have:=apply_rd h hi hov (renD h s);rw [hae] at this;exact this)
 have HPL:=Lib.hid hae;clear hov hae
 have HBD:Hid (0≤ah.size∧ah.name.length≤1048576∧ah.link.length≤1048576):=Lib.hid (by
  have:=apply_bd h HR.out h0 h1 h2;rw [HPL.out] at this
  exact this)
 have HND:=Lib.hid hN;clear hN h0 h1 h2;obtain ⟨⟨fm,fe⟩,hfd⟩:∃ x,fromD ah=x:=⟨_,rfl⟩;have hfb:fm.body=[]:=by have:=fromD_body ah;rw [hfd] at this;exact this
 have HFR:Hid (∀ wi,Tabs wi → Calls Tryz.prog 46 #[.agg (headC ah)] wi fun e w' => e=.returned (.tuple #[.agg #[.string (str fm.path),.string (str fm.target),.int .u8 (fm.kind.toNat:Int),.int .i64 fm.mode,.int .i64 fm.uid,.int .i64 fm.gid,.int .i64 fm.time,.slice none 0 0],.int .i64 fe])∧Below wi.heap.size wi w'):=
  Lib.hid (fun wi hT => by
   obtain ⟨_,b1,b2⟩:=HBD.out;have:=fromHead_any ah wi (by omega) (by omega) hT
   rw [hfd] at this;unfold memC at this;simp only [hfb,List.length_nil] at this
   exact this)
 have HFD:=Lib.hid hfd;have HFB:=Lib.hid hfb;clear hfd hfb;rw [HFD.out] at hfe0;simp only at hfe0;subst hfe0;have HBR:=Lib.hid hl;have HKL:=Lib.hid hkl;have HSZ:=Lib.hid hsz;clear hl hkl hsz
 go_enter Tryz.func56,Tryz.ntmps56
 go_upto_region 1 with fail
 clear hW1
 go_wp2_with fail
 refine hkn.mono ?_
 rintro e w1 ⟨rfl,rfl⟩
 go_upto_region 5 with fail
 refine wp_region_any (by kernel_rfl) (add5_region (w:=w) (w1:=W1) K.r K.gs K.mw w.heap.size h (renD h s) oq on oc ah 0 (show 73≤73 from Nat.le_refl 73) rfl rfl (Nat.le_refl _) HB1.out HX1.out (fun wi hb => HSS.out wi (HR.out.below hb)) (fun wi hb => renamed_any h (HR.out.below hb)) (fun wi hb => HAP.out wi (HR.out.below hb)) ?_)
 intro W5 hb5 hx5;have HB5:=Lib.hid hb5;have HX5:=Lib.hid hx5;have HR5:=Lib.hid (HR.out.below hb5);clear hb5 hx5 k2 x3;simp only [Exit.then]
 apply_assumption
 have b9:=HX5.out;have c0:=b9.cell 0;have c1:=b9.cell 1;have c2:=b9.cell 2;have c3:=b9.cell 3;have c4:=b9.cell 4;have c5:=b9.cell 5;have c6:=b9.cell 6;have c7:=b9.cell 7;have c8:=b9.cell 8;simp only [headC,List.getElem?_toArray,List.getElem?_cons_zero,List.getElem?_cons_succ] at c0 c1 c2 c3 c4 c5 c6 c7 c8;clear b9
 go_wp2_with fail
 refine (HFR.out _ (HR5.out.need HND.out).tabs).mono ?_
 rintro e w6 ⟨rfl,hb6⟩;have hb7:=hb6.alloc hb6.size (.cells #[.string (str fm.path),.string (str fm.target),.int .u8 (fm.kind.toNat:Int),.int .i64 fm.mode,.int .i64 fm.uid,.int .i64 fm.gid,.int .i64 fm.time,.slice none 0 0] 26);have hm7:=Blk.new w6 26 #[.string (str fm.path),.string (str fm.target),.int .u8 (fm.kind.toNat:Int),.int .i64 fm.mode,.int .i64 fm.uid,.int .i64 fm.gid,.int .i64 fm.time,.slice none 0 0];have hw6:w.heap.size < w6.heap.size:=Nat.lt_of_lt_of_le HX5.out.lt hb6.size;have HX7:=Lib.hid (HX5.out.below hb7 HX5.out.lt);have HR7:=Lib.hid (HR5.out.below hb7)
 have HM7:=Lib.hid hm7;have HW6:=Lib.hid hw6;clear hb6 hb7 hm7 hw6 c0 c1 c2 c3 c4 c5 c6 c7 c8;obtain ⟨W7,hW7⟩:∃ W7,w6.alloc (.cells #[.string (str fm.path),.string (str fm.target),.int .u8 (fm.kind.toNat:Int),.int .i64 fm.mode,.int .i64 fm.uid,.int .i64 fm.gid,.int .i64 fm.time,.slice none 0 0] 26)=W7:=⟨_,rfl⟩;rw [hW7] at HX7 HR7 HM7;have HW7:=Lib.hid hW7;clear hW7;have x0:=HR7.out.c0;have z7:=HX7.out.cell 7;simp only [headC,List.getElem?_toArray,List.getElem?_cons_zero,List.getElem?_cons_succ,HSZ.out] at z7;have hRd:=HR7.out.idle ((Kept.refl noneB W7).drew);obtain ⟨t,hs⟩:=hRd.src
 have hne:w.heap.size≠K.g∧w6.heap.size≠K.g:=by
  obtain ⟨t',hs'⟩:=HR.out.src;have:=hs'.lt;have:=HW6.out;exact ⟨by omega,by omega⟩
 have HRD:=Lib.hid hRd;have HNE:=Lib.hid hne;have hB:=body_no W7.drew K.g (a+512) t K.S hs hRd.off k HKL.out HBR.out;clear hs hRd hne
 go_upto_region 11 with fail
 rw [HW7.out]
 go_region_held_law (fun w' => w'.cell? ⟨K.r,0,none⟩=some (.pointer (some ⟨K.g,0,none⟩))∧w'.cell? ⟨w.heap.size,7,none⟩=some (.int .i64 (k:Int))) (first | exact ⟨x0,z7⟩ | exact hS8 | exact hS9)
  (first
   | (go_at_call 79
      refine hB.mono ?_
      rintro e w8 ⟨t',rfl,h4,h5⟩;have H8:=Lib.hid (HRD.out.moved h5 ⟨t',h4⟩);have HX8:Hid (Blk w8 w.heap.size 41 (headC ah)):=Lib.hid ((HX7.out.drew).keptS h5 HNE.out.1);have HM8:Hid (Blk w8 w6.heap.size 26 #[.string (str fm.path),.string (str fm.target),.int .u8 (fm.kind.toNat:Int),.int .i64 fm.mode,.int .i64 fm.uid,.int .i64 fm.gid,.int .i64 fm.time,.slice none 0 0]):=Lib.hid ((HM7.out.drew).keptS h5 HNE.out.2);have HB8:=Lib.hid h5;have hS8:w8.cell? ⟨K.r,0,none⟩=some (.pointer (some ⟨K.g,0,none⟩))∧w8.cell? ⟨w.heap.size,7,none⟩=some (.int .i64 (k:Int)):=⟨H8.out.c0,by have:=HX8.out.cell 7;simp only [headC,List.getElem?_toArray,List.getElem?_cons_zero,List.getElem?_cons_succ,HSZ.out] at this;exact this⟩
      have hS9:(w8.setCell ⟨w6.heap.size,7,none⟩ (.slice none 0 0)).cell? ⟨K.r,0,none⟩=some (.pointer (some ⟨K.g,0,none⟩))∧(w8.setCell ⟨w6.heap.size,7,none⟩ (.slice none 0 0)).cell? ⟨w.heap.size,7,none⟩=some (.int .i64 (k:Int)):=
       ⟨(H8.out.blk.other (b':=w6.heap.size) (i:=7) (by have:=HR.out.blk.lt;have:=HW6.out;omega) _).cell 0,by have:=(HX8.out.other (b':=w6.heap.size) (i:=7) (by have:=HW6.out;omega) (.slice none 0 0)).cell 7;simp only [headC,List.getElem?_toArray,List.getElem?_cons_zero,List.getElem?_cons_succ,HSZ.out] at this;exact this⟩
      have m7:=HM8.out.cell 7;have fm7:=HM8.out.frozen 7;simp only [List.getElem?_toArray,List.getElem?_cons_zero,List.getElem?_cons_succ] at m7
      clear h4 h5))
 clear hB hS8 x0 z7
 go_wp2
 go_ret
 exact ⟨rfl,H8.out.bel.setCell (p:=⟨w6.heap.size,7,none⟩) (Nat.le_trans HR.out.bel.size (Nat.le_of_lt HW6.out)) _⟩
set_option maxHeartbeats 8000000 in
theorem add_ok (hr:Rd w0 w K (a+512) s mb v xs q n c) (h:HeadV) (hf:s.out.length < 4096) (hk:knownD h.kind=true) (hN:Need w0) (h0:0≤h.size) (h1:h.name.length≤1048576) (h2:h.link.length≤1048576) (ah:HeadV) (hae:applyD (lastD s.glob) s.own (renD h s)=(ah,0)) (hfe0:(fromD ah).2=0) (k:Nat) (hsz:ah.size=(k:Int)) (hkl:k≤1048576) (X:List UInt8) (hX:(K.S.bs.drop (a+512)).take k=X) (hl:a+512+padN k≤K.S.n) :
 Calls Tryz.prog 56 #[.pointer (some ⟨K.r,0,none⟩),.agg (headC h)] w fun e w' => e=.returned (.int .i64 0)∧Left w0 K (a+512+padN k) { s with out:=s.out++[{ (fromD ah).1 with body:=X }],own:=[],name:=none,link:=none,hasX:=false } w':=by
 have HXL:Hid (X.length=k):=Lib.hid (by
  obtain ⟨t,hs⟩:=hr.src;have:=padN_ge k;have:=hs.len
  rw [← hX,List.length_take,List.length_drop];omega)
 obtain ⟨vp,vc,hv,_,_,_⟩:=mems_own hr.row hr.bodies;subst hv;have hxl:xs.length=s.out.length:=by have:=congrArg List.length hr.out;simpa using this
 obtain ⟨W1,hW1⟩:∃ W1,w.alloc (.cells (headC h) 41)=W1:=⟨_,rfl⟩;have hB1:Below w.heap.size w W1:=by rw [← hW1];exact (Below.refl _ w).alloc (Nat.le_refl _) _
 have hX1:Blk W1 w.heap.size 41 (headC h):=by rw [← hW1];exact Blk.new w _ _
 have hR1:=hr.below hB1;have x3:=hR1.c3;have HR:=Lib.hid hr;have HB1:=Lib.hid hB1;have HX1:=Lib.hid hX1;have HR1:=Lib.hid hR1;have HXN:=Lib.hid hxl;clear hr hB1 hX1 hR1;have hnl:((xs.length:Int) == 4096)=false:=by rw [hxl];simpa using (by omega:¬ (s.out.length:Int)=4096)
 clear hxl;have k2:=HX1.out.cell 2;simp only [headC,List.getElem?_toArray,List.getElem?_cons_zero,List.getElem?_cons_succ] at k2;have hkn:=known_any h.kind W1;rw [hk] at hkn;obtain ⟨⟨oq,on,oc⟩,hov⟩:∃ x,ownV s q n c=x:=⟨_,rfl⟩
 have HSS:Hid (∀ wi,Rd w0 wi K (a+512) s mb (.slice vp xs.length vc) xs q n c → ((wi.cell? ⟨K.r,1,none⟩=some (.pointer (some ⟨K.gs,0,none⟩))∧wi.cell? ⟨K.r,2,none⟩=some (.map (some K.mw)))∧(Instr.lookup 72 (.map (some K.mw)) (.int .u8 120) false).run Tryz.prog wi=.ok (.agg #[.string ⟨#[]⟩,.slice oq on oc]) wi)):=
  Lib.hid (fun wi hi => ⟨⟨hi.c1,hi.c2⟩,look120 hi.map hov⟩)
 have HAP:Hid (∀ wi,Rd w0 wi K (a+512) s mb (.slice vp xs.length vc) xs q n c → Calls Tryz.prog 83 #[.pointer (some ⟨K.gs,0,none⟩),.agg (headC (renD h s)),.slice oq on oc] wi fun e w' => e=.returned (.tuple #[.agg (headC ah),.int .i64 0])∧Below wi.heap.size wi w'):=
  Lib.hid (fun wi hi => by have:=apply_rd h hi hov (renD h s);rw [hae] at this;exact this)
 have HPL:=Lib.hid hae;clear hov hae
 have HBD:Hid (0≤ah.size∧ah.name.length≤1048576∧ah.link.length≤1048576):=Lib.hid (by
  have:=apply_bd h HR.out h0 h1 h2;rw [HPL.out] at this
  exact this)
 have HND:=Lib.hid hN;clear hN h0 h1 h2;obtain ⟨⟨fm,fe⟩,hfd⟩:∃ x,fromD ah=x:=⟨_,rfl⟩;have hfb:fm.body=[]:=by have:=fromD_body ah;rw [hfd] at this;exact this
 have HFR:Hid (∀ wi,Tabs wi → Calls Tryz.prog 46 #[.agg (headC ah)] wi fun e w' => e=.returned (.tuple #[.agg #[.string (str fm.path),.string (str fm.target),.int .u8 (fm.kind.toNat:Int),.int .i64 fm.mode,.int .i64 fm.uid,.int .i64 fm.gid,.int .i64 fm.time,.slice none 0 0],.int .i64 fe])∧Below wi.heap.size wi w'):=
  Lib.hid (fun wi hT => by
   obtain ⟨_,b1,b2⟩:=HBD.out;have:=fromHead_any ah wi (by omega) (by omega) hT
   rw [hfd] at this;unfold memC at this;simp only [hfb,List.length_nil] at this
   exact this)
 have HFD:=Lib.hid hfd;have HFB:=Lib.hid hfb;clear hfd hfb;rw [HFD.out] at hfe0;simp only at hfe0;subst hfe0;rw [HFD.out];have HF:=Lib.hid hf;have HBR:=Lib.hid (And.intro hX hl);have HKL:=Lib.hid hkl;have HSZ:=Lib.hid hsz;clear hl hkl hsz hX hf
 go_enter Tryz.func56,Tryz.ntmps56
 go_upto_region 1 with fail
 clear hW1
 go_wp2_with fail
 refine hkn.mono ?_
 rintro e w1 ⟨rfl,rfl⟩
 go_upto_region 5 with fail
 refine wp_region_any (by kernel_rfl) (add5_region (w:=w) (w1:=W1) K.r K.gs K.mw w.heap.size h (renD h s) oq on oc ah 0 (show 73≤73 from Nat.le_refl 73) rfl rfl (Nat.le_refl _) HB1.out HX1.out (fun wi hb => HSS.out wi (HR.out.below hb)) (fun wi hb => renamed_any h (HR.out.below hb)) (fun wi hb => HAP.out wi (HR.out.below hb)) ?_)
 intro W5 hb5 hx5;have HB5:=Lib.hid hb5;have HX5:=Lib.hid hx5;have HR5:=Lib.hid (HR.out.below hb5);clear hb5 hx5 k2 x3;simp only [Exit.then]
 apply_assumption
 have b9:=HX5.out;have c0:=b9.cell 0;have c1:=b9.cell 1;have c2:=b9.cell 2;have c3:=b9.cell 3;have c4:=b9.cell 4;have c5:=b9.cell 5;have c6:=b9.cell 6;have c7:=b9.cell 7;have c8:=b9.cell 8;simp only [headC,List.getElem?_toArray,List.getElem?_cons_zero,List.getElem?_cons_succ] at c0 c1 c2 c3 c4 c5 c6 c7 c8;clear b9
 go_wp2_with fail
 refine (HFR.out _ (HR5.out.need HND.out).tabs).mono ?_
 rintro e w6 ⟨rfl,hb6⟩;have hb7:=hb6.alloc hb6.size (.cells #[.string (str fm.path),.string (str fm.target),.int .u8 (fm.kind.toNat:Int),.int .i64 fm.mode,.int .i64 fm.uid,.int .i64 fm.gid,.int .i64 fm.time,.slice none 0 0] 26);have hm7:=Blk.new w6 26 #[.string (str fm.path),.string (str fm.target),.int .u8 (fm.kind.toNat:Int),.int .i64 fm.mode,.int .i64 fm.uid,.int .i64 fm.gid,.int .i64 fm.time,.slice none 0 0];have hw6:w.heap.size < w6.heap.size:=Nat.lt_of_lt_of_le HX5.out.lt hb6.size;have HX7:=Lib.hid (HX5.out.below hb7 HX5.out.lt);have HR7:=Lib.hid (HR5.out.below hb7)
 have HM7:=Lib.hid hm7;have HW6:=Lib.hid hw6;clear hb6 hb7 hm7 hw6 c0 c1 c2 c3 c4 c5 c6 c7 c8;obtain ⟨W7,hW7⟩:∃ W7,w6.alloc (.cells #[.string (str fm.path),.string (str fm.target),.int .u8 (fm.kind.toNat:Int),.int .i64 fm.mode,.int .i64 fm.uid,.int .i64 fm.gid,.int .i64 fm.time,.slice none 0 0] 26)=W7:=⟨_,rfl⟩;rw [hW7] at HX7 HR7 HM7;have HW7:=Lib.hid hW7;clear hW7;have x0:=HR7.out.c0;have z7:=HX7.out.cell 7;simp only [headC,List.getElem?_toArray,List.getElem?_cons_zero,List.getElem?_cons_succ,HSZ.out] at z7;have hRd:=HR7.out.idle ((Kept.refl noneB W7).drew);obtain ⟨t,hs⟩:=hRd.src
 have hne:w.heap.size≠K.g∧w6.heap.size≠K.g:=by
  obtain ⟨t',hs'⟩:=HR.out.src;have:=hs'.lt;have:=HW6.out;exact ⟨by omega,by omega⟩
 have HRD:=Lib.hid hRd;have HNE:=Lib.hid hne;have hB:=body_ok W7.drew K.g (a+512) t K.S hs hRd.off k HKL.out X HBR.out.1 HBR.out.2;clear hs hRd hne
 go_upto_region 11 with fail
 rw [HW7.out]
 go_region_held_law (fun w' => w'.cell? ⟨K.r,0,none⟩=some (.pointer (some ⟨K.g,0,none⟩))∧w'.cell? ⟨w.heap.size,7,none⟩=some (.int .i64 (k:Int))) (first | exact ⟨x0,z7⟩ | exact hS8 | exact hS9)
  (first
   | (go_at_call 79
      refine hB.mono ?_
      rintro e w8 ⟨p,t',rfl,h2,h3,h4,h5⟩;have H8:=Lib.hid (HRD.out.moved h5 ⟨t',h4⟩);have HX8:Hid (Blk w8 w.heap.size 41 (headC ah)):=Lib.hid ((HX7.out.drew).keptS h5 HNE.out.1);have HM8:Hid (Blk w8 w6.heap.size 26 #[.string (str fm.path),.string (str fm.target),.int .u8 (fm.kind.toNat:Int),.int .i64 fm.mode,.int .i64 fm.uid,.int .i64 fm.gid,.int .i64 fm.time,.slice none 0 0]):=Lib.hid ((HM7.out.drew).keptS h5 HNE.out.2);have HB8:=Lib.hid (And.intro h2 h3);have hS8:w8.cell? ⟨K.r,0,none⟩=some (.pointer (some ⟨K.g,0,none⟩))∧w8.cell? ⟨w.heap.size,7,none⟩=some (.int .i64 (k:Int)):=⟨H8.out.c0,by have:=HX8.out.cell 7;simp only [headC,List.getElem?_toArray,List.getElem?_cons_zero,List.getElem?_cons_succ,HSZ.out] at this;exact this⟩
      have hS9:(w8.setCell ⟨w6.heap.size,7,none⟩ (.slice p k k)).cell? ⟨K.r,0,none⟩=some (.pointer (some ⟨K.g,0,none⟩))∧(w8.setCell ⟨w6.heap.size,7,none⟩ (.slice p k k)).cell? ⟨w.heap.size,7,none⟩=some (.int .i64 (k:Int)):=
       ⟨(H8.out.blk.other (b':=w6.heap.size) (i:=7) (by have:=HR.out.blk.lt;have:=HW6.out;omega) _).cell 0,by have:=(HX8.out.other (b':=w6.heap.size) (i:=7) (by have:=HW6.out;omega) (.slice p k k)).cell 7;simp only [headC,List.getElem?_toArray,List.getElem?_cons_zero,List.getElem?_cons_succ,HSZ.out] at this;exact this⟩
      have m7:=HM8.out.cell 7;have fm7:=HM8.out.frozen 7;simp only [List.getElem?_toArray,List.getElem?_cons_zero,List.getElem?_cons_succ] at m7
      clear h2 h3 h4 h5))
 clear hB hS8 x0 z7
 have hm9:Blk (w8.setCell ⟨w6.heap.size,7,none⟩ (.slice p k k)) w6.heap.size 26 (MP.mk { fm with body:=X } p k).cs:=by
  have h9:=HM8.out.set 7 (.slice p k k) (by decide:7 < 8)
  have e:(MP.mk { fm with body:=X } p k).cs=#[.string (str fm.path),.string (str fm.target),.int .u8 (fm.kind.toNat:Int),.int .i64 fm.mode,.int .i64 fm.uid,.int .i64 fm.gid,.int .i64 fm.time,.slice p X.length k]:=rfl
  rw [e,HXL.out];exact h9
 have hk9:Kept (fun k => w.heap.size≤k) w8 (w8.setCell ⟨w6.heap.size,7,none⟩ (.slice p k k)):=(Kept.refl _ w8).setCell (a:=⟨w6.heap.size,7,none⟩) (.inr (Nat.le_of_lt HW6.out)) _
 have hR9:=Rd.foreign HR.out H8.out hk9
 have hb9:BAt (w8.setCell ⟨w6.heap.size,7,none⟩ (.slice p k k)) p k X:=HB8.out.1.kept ((Kept.refl (oneB w6.heap.size) w8).setCell (a:=⟨w6.heap.size,7,none⟩) (.inr rfl) _) (fun _ x hx e => by
  have h1:=HB8.out.2 x hx;have h2:=HM7.out.lt;have h3:x.block=w6.heap.size:=e;have h4:W7.drew.heap.size=W7.heap.size:=rfl
  omega)
 obtain ⟨W9,hW9⟩:∃ W9,w8.setCell ⟨w6.heap.size,7,none⟩ (.slice p k k)=W9:=⟨_,rfl⟩;rw [hW9] at hm9 hR9 hb9;have HW9:=Lib.hid hW9;have HM9:=Lib.hid hm9;have HR9:=Lib.hid hR9;have HB9:=Lib.hid hb9;clear hm9 hR9 hb9 hk9 hS9 m7 fm7 hW9
 go_upto_region 14 with fail
 rw [HW9.out];refine wp_region_any (by kernel_rfl) (add14_region (w1:=W9) w0.heap.size K.r w6.heap.size (.slice vp xs.length vc) xs (MP.mk { fm with body:=X } p k) (readerC K (.slice vp xs.length vc)) (show 73≤73 from Nat.le_refl 73) rfl rfl HM9.out HR9.out.blk rfl (fun e => (HR9.out.neV _ e).1 rfl) HR9.out.row HR9.out.bel.size (by have:=HXN.out;have:=HF.out;omega) ?_)
 intro γ wB hA;obtain ⟨wA,g1,g2,g3,g4⟩:=hA;have hRA:=HR9.out.below g1;have hmap:=hRA.map_added (v':=γ.va) g3;have hkB:Kept (fun k => (Value.slice vp xs.length vc).ownBlock=some k) wA wB:=(Kept.refl _ wA).grown g3 (fun k hk => .inr hk)
 have hbC:=((hRA.blk.keptS hkB (fun e => (hRA.neV _ e).1 rfl)).set 3 γ.va (by decide:3 < 4)).cell 2
 have c2:(wB.setCell ⟨K.r,3,none⟩ γ.va).cell? ⟨K.r,2,none⟩=some (.map (some K.mw)):=hbC;obtain ⟨w2,hrun,hm2,hk2,hs2⟩:=hmap.cleared Tryz.underlying72 0;have hy:BodyAt wA (MP.mk { fm with body:=X } p k):=⟨by show BAt wA p X.length X;rw [HXL.out];exact HB9.out.below g1,by show X.length≤k;rw [HXL.out];exact Nat.le_refl _,by show k≤maxLen;have:=HKL.out;unfold maxLen;omega⟩
 have F:=Lib.hid (hRA.added g2 g3 g4 hy (fun _ z hz => HRD.out.fresh (HB8.out.2 z hz)) HF.out hm2 hk2)
 clear g1 g2 g3 g4 hRA hmap hkB hbC hm2 hk2 hs2 hy;simp only [Exit.then]
 apply_assumption
 go_wp2
 go_ret
 exact ⟨rfl,mb,γ.va,_,none,0,0,F.out⟩
end
end Go.Proofs.YtnpkcneojilmkaaGreatDoor.Mem
end
section
namespace Go.Proofs.YtnpkcneojilmkaaGreatDoor.Mem
open Go.ChangeShapes Go.WideShapes Go.ChangeAt Go.RowKit Base Byt Txt Bk Mk Block Hp Head Attr Rec Path Go.Lib Go.Shelf
set_option linter.unusedVariables false
set_option maxRecDepth 100000
section
variable {w0 w w':World} {K:RK} {a:Nat} {s:RS} {mb:Option Nat} {v:Value} {xs:List MP} {q:Option Addr} {n c:Nat}
theorem known_is (k:UInt8):knownD k=true ↔ ¬ (k≠48∧k≠49∧k≠50∧k≠53):=by
 unfold knownD;simp only [Bool.or_eq_true,beq_iff_eq];constructor
 ·rintro (((h | h) | h) | h) ⟨h1,h2,h3,h4⟩
  ·exact h1 h
  ·exact h2 h
  ·exact h3 h
  ·exact h4 h
 ·intro h
  by_cases h1:k=48
  ·exact .inl (.inl (.inl h1))
  ·by_cases h2:k=49
   ·exact .inl (.inl (.inr h2))
   ·by_cases h3:k=50
    ·exact .inl (.inr h3)
    ·by_cases h4:k=53
     ·exact .inr h4
     ·exact absurd ⟨h1,h2,h3,h4⟩ h
theorem add_any (hr:Rd w0 w K (a+512) s mb v xs q n c) (h:HeadV) (hN:Need w0) (h0:0≤h.size) (h1:h.name.length≤1048576) (h2:h.link.length≤1048576) :
 Calls Tryz.prog 56 #[.pointer (some ⟨K.r,0,none⟩),.agg (headC h)] w (StepPost w0 K a (memD (K.S.bs.drop a) h s)):=by
 obtain ⟨t,hs⟩:=hr.src;have hlen:=hs.len;have hle:=hs.le;have hLL:(K.S.bs.drop a).length=K.S.n - a:=by rw [List.length_drop,hlen]
 unfold memD
 by_cases hf:4096≤s.out.length
 ·rw [if_pos hf]
  exact (add_full hr h (Nat.le_antisymm hr.many hf)).mono fun e w' h => h
 ·rw [if_neg hf]
  have hf':s.out.length < 4096:=by omega
  by_cases hk:h.kind≠48∧h.kind≠49∧h.kind≠50∧h.kind≠53
  ·rw [if_pos hk]
   exact (add_odd hr h hf' (by
    cases hx:knownD h.kind with
    | false => rfl
    | true => exact absurd hk ((known_is _).1 hx))).mono fun e w' h => h
  ·rw [if_neg hk,memOf_is]
   have hk':=(known_is _).2 hk
   by_cases ha:(applyD (lastD s.glob) s.own (renD h s)).2≠0
   ·rw [if_pos ha]
    exact (add_noapply hr h hf' hk' ha).mono fun e w' h => h
   ·rw [if_neg ha]
    have ha':applyD (lastD s.glob) s.own (renD h s)=((applyD (lastD s.glob) s.own (renD h s)).1,0):=Prod.ext rfl (Classical.byContradiction ha);have hb:=apply_bd h hr h0 h1 h2;obtain ⟨ah,hah⟩:∃ x,(applyD (lastD s.glob) s.own (renD h s)).1=x:=⟨_,rfl⟩;rw [hah] at ha' hb ⊢
    by_cases hfr:(fromD ah).2≠0
    ·rw [if_pos hfr]
     exact (add_nofrom hr h hf' hk' hN h0 h1 h2 ah ha' hfr).mono fun e w' h => h
    ·rw [if_neg hfr]
     have hfr':(fromD ah).2=0:=Classical.byContradiction hfr;have hsz:=fromD_size hfr';obtain ⟨k,hk0⟩:∃ k:Nat,ah.size=(k:Int):=⟨ah.size.toNat,by omega⟩
     have hkl:k≤1048576:=by omega
     have hbk:blocksOf k=padN k:=rfl;simp only;unfold bodyN;rw [hk0,Int.toNat_natCast,hLL]
     by_cases h3:K.S.n < a+512+padN k
     ·rw [if_pos (by rw [hbk];omega)]
      exact (add_short hr h hf' hk' hN h0 h1 h2 ah ha' hfr' k hk0 hkl h3).mono fun e w' h => h
     ·rw [if_neg (by rw [hbk];omega)]
      simp only;obtain ⟨X,hX⟩:∃ X,(K.S.bs.drop (a+512)).take k=X:=⟨_,rfl⟩;rw [List.drop_drop,hX,hbk];refine (add_ok hr h hf' hk' hN h0 h1 h2 ah ha' hfr' k hk0 hkl X hX (by omega)).mono ?_
      rintro e w' ⟨rfl,hb⟩;rw [Nat.add_assoc] at hb;exact ⟨rfl,hb⟩
theorem blk_ok (w:World) (g a t:Nat) (S:Sv) (h:Block.Src w g S a t) (ho:S.off g) (X:List UInt8) (hX:(S.bs.drop a).take 512=X) (hl:a+512≤S.n) :
 Calls Tryz.prog 51 #[.pointer (some ⟨g,0,none⟩)] w fun e w' => ∃ p c t',e=.returned (.tuple #[.slice p 512 c,.int .i64 0])∧512≤c∧c≤maxLen∧BAt w' p 512 X∧Block.Src w' g S (a+512) t'∧Kept (oneB g) w w':=by
 refine (srcBlock_any w g a t S h ho).mono ?_
 rintro e w' (⟨h1,_⟩ | ⟨_,h2⟩)
 ·omega
 ·rcases h2 with ⟨_,v,rfl,h3,⟨t',h4⟩,h5⟩ | ⟨h1,_⟩
  ·obtain ⟨p,c,rfl,h6,h7,h8,_,_⟩:=h3.slice
   rw [hX] at h8;exact ⟨p,c,t',rfl,h6,h7,h8,h4,h5⟩
  ·omega
theorem blk_no (w:World) (g a t:Nat) (S:Sv) (h:Block.Src w g S a t) (ho:S.off g) (hl:S.n < a+512) :
 Calls Tryz.prog 51 #[.pointer (some ⟨g,0,none⟩)] w fun e w' => ∃ E a' t',(E=14 ∨ E=2)∧e=.returned (.tuple #[.slice none 0 0,.int .i64 E])∧Block.Src w' g S a' t'∧Kept (oneB g) w w':=by
 refine (srcBlock_any w g a t S h ho).mono ?_
 rintro e w' (⟨_,rfl,⟨t',h1⟩,h2⟩ | ⟨_,h2⟩)
 ·exact ⟨14,_,t',.inl rfl,rfl,h1,h2⟩
 ·rcases h2 with ⟨h3,_⟩ | ⟨_,rfl,⟨t',h4⟩,h5⟩
  ·omega
  ·exact ⟨2,_,t',.inr rfl,rfl,h4,h5⟩
def NextPost (w0:World) (K:RK) (a:Nat) (s:RS) (mb:Option Nat) (v:Value) (xs:List MP) (q:Option Addr) (n c:Nat) (st:Step) (e:Ending) (w':World):Prop:=
 match st with
 | .fault er => (∃ b,e=.returned (.tuple #[.bool b,.int .i64 er]))∧Below w0.heap.size w0 w'
 | .done => e=.returned (.tuple #[.bool false,.int .i64 0]) ∧ ∃ a',Rd w0 w' K a' s mb v xs q n c
 | .next k s' => e=.returned (.tuple #[.bool true,.int .i64 0])∧Left w0 K (a+k) s' w'
theorem next_short (hr:Rd w0 w K a s mb v xs q n c) (hl:K.S.n < a+512) :
 Calls Tryz.prog 34 #[.pointer (some ⟨K.r,0,none⟩)] w fun e w' => e=.returned (.tuple #[.bool false,.int .i64 2])∧Below w0.heap.size w0 w':=by
 obtain ⟨t,hs⟩:=hr.src;have HR:=Lib.hid hr;have x0:=hr.c0;have hB:=blk_no w K.g a t K.S hs hr.off hl;clear hr hs hl
 go_enter Tryz.func34,Tryz.ntmps34
 go_wp2_with fail
 refine hB.mono ?_
 rintro e w1 ⟨E,a',t',hE,rfl,h4,h5⟩;have F:=Lib.hid (HR.out.moved h5 ⟨t',h4⟩);have hE0:(E != 0)=true:=by rcases hE with rfl | rfl<;>rfl
 clear h4 h5 hB x0 hE
 go_wp2
 go_ret2
 exact ⟨rfl,F.out.bel⟩
theorem next_end (hr:Rd w0 w K a s mb v xs q n c) (X:List UInt8) (hX:(K.S.bs.drop a).take 512=X) (hl:a+512≤K.S.n) (hz:zeroB X=true) :
 Calls Tryz.prog 34 #[.pointer (some ⟨K.r,0,none⟩)] w fun e w' => e=.returned (.tuple #[.bool false,.int .i64 (endE (K.S.bs.drop (a+512)) s)]) ∧ ∃ a',Rd w0 w' K a' s mb v xs q n c:=by
 obtain ⟨t,hs⟩:=hr.src;have hXl:X.length=512:=by rw [← hX,List.length_take,List.length_drop,hs.len];omega
 have HR:=Lib.hid hr;have x0:=hr.c0;have hB:=blk_ok w K.g a t K.S hs hr.off X hX hl;have HXL:=Lib.hid hXl;have HZ:=Lib.hid hz;obtain ⟨EE,hEE⟩:∃ EE,endE (K.S.bs.drop (a+512)) s=EE:=⟨_,rfl⟩;rw [hEE];have HEE:=Lib.hid hEE;clear hr hs hl hX hXl hz hEE
 go_enter Tryz.func34,Tryz.ntmps34
 go_wp2_with fail
 refine hB.mono ?_
 rintro e w1 ⟨p,cc,t',rfl,_,_,h3,h4,h5⟩;have F:=Lib.hid (HR.out.moved h5 ⟨t',h4⟩);have HB1:=Lib.hid h3;clear h3 h4 h5 hB x0
 go_wp2_with fail
 refine (zero512_any p cc X w1 HXL.out HB1.out).mono ?_
 rw [HZ.out];rintro e w2 ⟨rfl,rfl⟩
 go_wp2_with fail
 refine (show Calls _ _ _ _ (EndPost w0 K (a+512) s mb v xs q n c (endE (K.S.bs.drop (a+512)) s)) from end_any F.out).mono ?_
 rw [HEE.out];rintro e w3 ⟨rfl,a',hR⟩;have G:=Lib.hid hR;clear hR
 go_wp2
 go_ret2
 exact ⟨rfl,a',G.out⟩
theorem next_nohead (hr:Rd w0 w K a s mb v xs q n c) (X:List UInt8) (hX:(K.S.bs.drop a).take 512=X) (hl:a+512≤K.S.n) (hz:zeroB X=false) (he:(headR X).2≠0) :
 Calls Tryz.prog 34 #[.pointer (some ⟨K.r,0,none⟩)] w fun e w' => e=.returned (.tuple #[.bool false,.int .i64 (headR X).2])∧Below w0.heap.size w0 w':=by
 obtain ⟨t,hs⟩:=hr.src;have hXl:X.length=512:=by rw [← hX,List.length_take,List.length_drop,hs.len];omega
 have HR:=Lib.hid hr;have x0:=hr.c0;have hB:=blk_ok w K.g a t K.S hs hr.off X hX hl;have HXL:=Lib.hid hXl;have HZ:=Lib.hid hz;obtain ⟨⟨h,er⟩,hh⟩:∃ x,headR X=x:=⟨_,rfl⟩;rw [hh] at he ⊢;simp only at he ⊢;have hE0:(er != 0)=true:=by simpa using he
 have HH:=Lib.hid hh;clear hr hs hl hX hXl hz he hh
 go_enter Tryz.func34,Tryz.ntmps34
 go_wp2_with fail
 refine hB.mono ?_
 rintro e w1 ⟨p,cc,t',rfl,hc1,hc2,h3,h4,h5⟩;have F:=Lib.hid (HR.out.moved h5 ⟨t',h4⟩);have HB1:=Lib.hid h3;have HC1:=Lib.hid (And.intro hc1 hc2);clear h3 h4 h5 hB x0 hc1 hc2
 go_wp2_with fail
 refine (zero512_any p cc X w1 HXL.out HB1.out).mono ?_
 rw [HZ.out];rintro e w2 ⟨rfl,rfl⟩
 go_wp2_with fail
 refine (parseH_any p 512 cc X w1 HXL.out HC1.out.1 HC1.out.2 HB1.out).mono ?_
 rw [HH.out];unfold headA headC;simp only;rintro e w3 ⟨rfl,hk3⟩;have G:=Lib.hid ((F.out.idle hk3).bel.alloc (F.out.idle hk3).bel.size (.cells #[.string (str h.name),.string (str h.link),.int .u8 (h.kind.toNat:Int),.int .i64 h.mode,.int .i64 h.uid,.int .i64 h.gid,.int .i64 h.time,.int .i64 h.size,.bool h.gnu] 41));clear hk3
 go_wp2
 go_ret2
 exact ⟨rfl,G.out⟩
end
end Go.Proofs.YtnpkcneojilmkaaGreatDoor.Mem
end
section
namespace Go.Proofs.YtnpkcneojilmkaaGreatDoor.Mem
open Go.ChangeShapes Go.WideShapes Go.ChangeAt Go.RowKit Base Byt Txt Bk Mk Block Hp Head Attr Rec Path Go.Lib Go.Shelf
set_option linter.unusedVariables false
set_option maxRecDepth 100000
section
variable {w0 w w':World} {K:RK} {a:Nat} {s:RS} {mb:Option Nat} {v:Value} {xs:List MP} {q:Option Addr} {n c:Nat}
set_option maxHeartbeats 2000000 in
theorem next_ext120 (hr:Rd w0 w K a s mb v xs q n c) (X:List UInt8) (hX:(K.S.bs.drop a).take 512=X) (hl:a+512≤K.S.n) (hz:zeroB X=false) (h:HeadV) (hh:headR X=(h,0)) (hkd:h.kind=120) (hN:Need w0) :
 Calls Tryz.prog 34 #[.pointer (some ⟨K.r,0,none⟩)] w fun e w' => ∃ E,e=.returned (.tuple #[.bool true,.int .i64 E])∧StepPost w0 K a (extD (K.S.bs.drop a) h s) (.returned (.int .i64 E)) w':=by
 obtain ⟨t,hs⟩:=hr.src;have hXl:X.length=512:=by rw [← hX,List.length_take,List.length_drop,hs.len];omega
 have HR:=Lib.hid hr;have x0:=hr.c0;have hB:=blk_ok w K.g a t K.S hs hr.off X hX hl;have HXL:=Lib.hid hXl;have HZ:=Lib.hid hz;have HH:=Lib.hid hh;have hbd:=headR_bd X;rw [hh] at hbd;obtain ⟨b0,b1,b2⟩:=hbd;have HBD:=Lib.hid (And.intro b0 (And.intro b1 b2));have HND:=Lib.hid hN;obtain ⟨kn,hkn⟩:∃ kn:Int,(h.kind.toNat:Int)=kn:=⟨_,rfl⟩;obtain rfl:kn=120:=by rw [← hkn,hkd];rfl
 have HK:=Lib.hid hkd;clear hkd;clear hr hs hl hX hXl hz hh b0 b1 b2 hN;have HKN:=Lib.hid hkn;clear hkn
 go_enter Tryz.func34,Tryz.ntmps34
 go_wp2_with fail
 refine hB.mono ?_
 rintro e w1 ⟨p,cc,t',rfl,hc1,hc2,h3,h4,h5⟩;have F:=Lib.hid (HR.out.moved h5 ⟨t',h4⟩);have HB1:=Lib.hid h3;have HC1:=Lib.hid (And.intro hc1 hc2);clear h3 h4 h5 hB x0 hc1 hc2
 go_wp2_with fail
 refine (zero512_any p cc X w1 HXL.out HB1.out).mono ?_
 rw [HZ.out];rintro e w2 ⟨rfl,rfl⟩
 go_wp2_with fail
 refine (parseH_any p 512 cc X w1 HXL.out HC1.out.1 HC1.out.2 HB1.out).mono ?_
 rw [HH.out];unfold headA headC;simp only [HKN.out];rintro e w3 ⟨rfl,hk3⟩;have hG:=(F.out.idle hk3).below ((Below.refl _ w3).alloc (Nat.le_refl _) (.cells #[.string (str h.name),.string (str h.link),.int .u8 120,.int .i64 h.mode,.int .i64 h.uid,.int .i64 h.gid,.int .i64 h.time,.int .i64 h.size,.bool h.gnu] 41));have b1:=Blk.new w3 41 #[.string (str h.name),.string (str h.link),.int .u8 120,.int .i64 h.mode,.int .i64 h.uid,.int .i64 h.gid,.int .i64 h.time,.int .i64 h.size,.bool h.gnu];have d0:=b1.cell 0;have d1:=b1.cell 1;have d2:=b1.cell 2;have d3:=b1.cell 3;have d4:=b1.cell 4
 have d5:=b1.cell 5;have d6:=b1.cell 6;have d7:=b1.cell 7;have d8:=b1.cell 8;simp only [List.getElem?_toArray,List.getElem?_cons_zero,List.getElem?_cons_succ] at d0 d1 d2 d3 d4 d5 d6 d7 d8;have G:=Lib.hid hG;clear hk3 b1 hG
 go_wp2_with fail
 refine (show Calls _ _ #[.pointer (some ⟨K.r,0,none⟩),.agg #[.string (str h.name),.string (str h.link),.int .u8 120,.int .i64 h.mode,.int .i64 h.uid,.int .i64 h.gid,.int .i64 h.time,.int .i64 h.size,.bool h.gnu]] _ (StepPost w0 K a (extD (K.S.bs.drop a) h s)) from by
  have:=ext_any G.out h HBD.out.1 (by rw [HK.out];rfl) HND.out
  unfold headC at this;rw [HKN.out] at this
  exact this).mono ?_
 intro e w4 hp
 obtain ⟨E,rfl⟩:∃ E,e=.returned (.int .i64 E):=by
  revert hp
  cases extD (K.S.bs.drop a) h s with
  | fault er => exact fun hp => ⟨er,hp.1⟩
  | done => exact fun hp => hp.elim
  | next k s' => exact fun hp => ⟨0,hp.1⟩
 have HP:=Lib.hid hp;clear hp
 go_wp2
 go_ret2
 exact ⟨E,rfl,HP.out⟩
set_option maxHeartbeats 2000000 in
theorem next_ext103 (hr:Rd w0 w K a s mb v xs q n c) (X:List UInt8) (hX:(K.S.bs.drop a).take 512=X) (hl:a+512≤K.S.n) (hz:zeroB X=false) (h:HeadV) (hh:headR X=(h,0)) (hkd:h.kind=103) (hN:Need w0) :
 Calls Tryz.prog 34 #[.pointer (some ⟨K.r,0,none⟩)] w fun e w' => ∃ E,e=.returned (.tuple #[.bool true,.int .i64 E])∧StepPost w0 K a (extD (K.S.bs.drop a) h s) (.returned (.int .i64 E)) w':=by
 obtain ⟨t,hs⟩:=hr.src;have hXl:X.length=512:=by rw [← hX,List.length_take,List.length_drop,hs.len];omega
 have HR:=Lib.hid hr;have x0:=hr.c0;have hB:=blk_ok w K.g a t K.S hs hr.off X hX hl;have HXL:=Lib.hid hXl;have HZ:=Lib.hid hz;have HH:=Lib.hid hh;have hbd:=headR_bd X;rw [hh] at hbd;obtain ⟨b0,b1,b2⟩:=hbd;have HBD:=Lib.hid (And.intro b0 (And.intro b1 b2));have HND:=Lib.hid hN;obtain ⟨kn,hkn⟩:∃ kn:Int,(h.kind.toNat:Int)=kn:=⟨_,rfl⟩;obtain rfl:kn=103:=by rw [← hkn,hkd];rfl
 have HK:=Lib.hid hkd;clear hkd;clear hr hs hl hX hXl hz hh b0 b1 b2 hN;have HKN:=Lib.hid hkn;clear hkn
 go_enter Tryz.func34,Tryz.ntmps34
 go_wp2_with fail
 refine hB.mono ?_
 rintro e w1 ⟨p,cc,t',rfl,hc1,hc2,h3,h4,h5⟩;have F:=Lib.hid (HR.out.moved h5 ⟨t',h4⟩);have HB1:=Lib.hid h3;have HC1:=Lib.hid (And.intro hc1 hc2);clear h3 h4 h5 hB x0 hc1 hc2
 go_wp2_with fail
 refine (zero512_any p cc X w1 HXL.out HB1.out).mono ?_
 rw [HZ.out];rintro e w2 ⟨rfl,rfl⟩
 go_wp2_with fail
 refine (parseH_any p 512 cc X w1 HXL.out HC1.out.1 HC1.out.2 HB1.out).mono ?_
 rw [HH.out];unfold headA headC;simp only [HKN.out];rintro e w3 ⟨rfl,hk3⟩;have hG:=(F.out.idle hk3).below ((Below.refl _ w3).alloc (Nat.le_refl _) (.cells #[.string (str h.name),.string (str h.link),.int .u8 103,.int .i64 h.mode,.int .i64 h.uid,.int .i64 h.gid,.int .i64 h.time,.int .i64 h.size,.bool h.gnu] 41));have b1:=Blk.new w3 41 #[.string (str h.name),.string (str h.link),.int .u8 103,.int .i64 h.mode,.int .i64 h.uid,.int .i64 h.gid,.int .i64 h.time,.int .i64 h.size,.bool h.gnu];have d0:=b1.cell 0;have d1:=b1.cell 1;have d2:=b1.cell 2;have d3:=b1.cell 3;have d4:=b1.cell 4
 have d5:=b1.cell 5;have d6:=b1.cell 6;have d7:=b1.cell 7;have d8:=b1.cell 8;simp only [List.getElem?_toArray,List.getElem?_cons_zero,List.getElem?_cons_succ] at d0 d1 d2 d3 d4 d5 d6 d7 d8;have G:=Lib.hid hG;clear hk3 b1 hG
 go_wp2_with fail
 refine (show Calls _ _ #[.pointer (some ⟨K.r,0,none⟩),.agg #[.string (str h.name),.string (str h.link),.int .u8 103,.int .i64 h.mode,.int .i64 h.uid,.int .i64 h.gid,.int .i64 h.time,.int .i64 h.size,.bool h.gnu]] _ (StepPost w0 K a (extD (K.S.bs.drop a) h s)) from by
  have:=ext_any G.out h HBD.out.1 (by rw [HK.out];rfl) HND.out
  unfold headC at this;rw [HKN.out] at this
  exact this).mono ?_
 intro e w4 hp
 obtain ⟨E,rfl⟩:∃ E,e=.returned (.int .i64 E):=by
  revert hp
  cases extD (K.S.bs.drop a) h s with
  | fault er => exact fun hp => ⟨er,hp.1⟩
  | done => exact fun hp => hp.elim
  | next k s' => exact fun hp => ⟨0,hp.1⟩
 have HP:=Lib.hid hp;clear hp
 go_wp2
 go_ret2
 exact ⟨E,rfl,HP.out⟩
set_option maxHeartbeats 2000000 in
theorem next_ext76 (hr:Rd w0 w K a s mb v xs q n c) (X:List UInt8) (hX:(K.S.bs.drop a).take 512=X) (hl:a+512≤K.S.n) (hz:zeroB X=false) (h:HeadV) (hh:headR X=(h,0)) (hkd:h.kind=76) (hN:Need w0) :
 Calls Tryz.prog 34 #[.pointer (some ⟨K.r,0,none⟩)] w fun e w' => ∃ E,e=.returned (.tuple #[.bool true,.int .i64 E])∧StepPost w0 K a (extD (K.S.bs.drop a) h s) (.returned (.int .i64 E)) w':=by
 obtain ⟨t,hs⟩:=hr.src;have hXl:X.length=512:=by rw [← hX,List.length_take,List.length_drop,hs.len];omega
 have HR:=Lib.hid hr;have x0:=hr.c0;have hB:=blk_ok w K.g a t K.S hs hr.off X hX hl;have HXL:=Lib.hid hXl;have HZ:=Lib.hid hz;have HH:=Lib.hid hh;have hbd:=headR_bd X;rw [hh] at hbd;obtain ⟨b0,b1,b2⟩:=hbd;have HBD:=Lib.hid (And.intro b0 (And.intro b1 b2));have HND:=Lib.hid hN;obtain ⟨kn,hkn⟩:∃ kn:Int,(h.kind.toNat:Int)=kn:=⟨_,rfl⟩;obtain rfl:kn=76:=by rw [← hkn,hkd];rfl
 have HK:=Lib.hid hkd;clear hkd;clear hr hs hl hX hXl hz hh b0 b1 b2 hN;have HKN:=Lib.hid hkn;clear hkn
 go_enter Tryz.func34,Tryz.ntmps34
 go_wp2_with fail
 refine hB.mono ?_
 rintro e w1 ⟨p,cc,t',rfl,hc1,hc2,h3,h4,h5⟩;have F:=Lib.hid (HR.out.moved h5 ⟨t',h4⟩);have HB1:=Lib.hid h3;have HC1:=Lib.hid (And.intro hc1 hc2);clear h3 h4 h5 hB x0 hc1 hc2
 go_wp2_with fail
 refine (zero512_any p cc X w1 HXL.out HB1.out).mono ?_
 rw [HZ.out];rintro e w2 ⟨rfl,rfl⟩
 go_wp2_with fail
 refine (parseH_any p 512 cc X w1 HXL.out HC1.out.1 HC1.out.2 HB1.out).mono ?_
 rw [HH.out];unfold headA headC;simp only [HKN.out];rintro e w3 ⟨rfl,hk3⟩;have hG:=(F.out.idle hk3).below ((Below.refl _ w3).alloc (Nat.le_refl _) (.cells #[.string (str h.name),.string (str h.link),.int .u8 76,.int .i64 h.mode,.int .i64 h.uid,.int .i64 h.gid,.int .i64 h.time,.int .i64 h.size,.bool h.gnu] 41));have b1:=Blk.new w3 41 #[.string (str h.name),.string (str h.link),.int .u8 76,.int .i64 h.mode,.int .i64 h.uid,.int .i64 h.gid,.int .i64 h.time,.int .i64 h.size,.bool h.gnu];have d0:=b1.cell 0;have d1:=b1.cell 1;have d2:=b1.cell 2;have d3:=b1.cell 3;have d4:=b1.cell 4
 have d5:=b1.cell 5;have d6:=b1.cell 6;have d7:=b1.cell 7;have d8:=b1.cell 8;simp only [List.getElem?_toArray,List.getElem?_cons_zero,List.getElem?_cons_succ] at d0 d1 d2 d3 d4 d5 d6 d7 d8;have G:=Lib.hid hG;clear hk3 b1 hG
 go_wp2_with fail
 refine (show Calls _ _ #[.pointer (some ⟨K.r,0,none⟩),.agg #[.string (str h.name),.string (str h.link),.int .u8 76,.int .i64 h.mode,.int .i64 h.uid,.int .i64 h.gid,.int .i64 h.time,.int .i64 h.size,.bool h.gnu]] _ (StepPost w0 K a (extD (K.S.bs.drop a) h s)) from by
  have:=ext_any G.out h HBD.out.1 (by rw [HK.out];rfl) HND.out
  unfold headC at this;rw [HKN.out] at this
  exact this).mono ?_
 intro e w4 hp
 obtain ⟨E,rfl⟩:∃ E,e=.returned (.int .i64 E):=by
  revert hp
  cases extD (K.S.bs.drop a) h s with
  | fault er => exact fun hp => ⟨er,hp.1⟩
  | done => exact fun hp => hp.elim
  | next k s' => exact fun hp => ⟨0,hp.1⟩
 have HP:=Lib.hid hp;clear hp
 go_wp2
 go_ret2
 exact ⟨E,rfl,HP.out⟩
set_option maxHeartbeats 2000000 in
theorem next_ext75 (hr:Rd w0 w K a s mb v xs q n c) (X:List UInt8) (hX:(K.S.bs.drop a).take 512=X) (hl:a+512≤K.S.n) (hz:zeroB X=false) (h:HeadV) (hh:headR X=(h,0)) (hkd:h.kind=75) (hN:Need w0) :
 Calls Tryz.prog 34 #[.pointer (some ⟨K.r,0,none⟩)] w fun e w' => ∃ E,e=.returned (.tuple #[.bool true,.int .i64 E])∧StepPost w0 K a (extD (K.S.bs.drop a) h s) (.returned (.int .i64 E)) w':=by
 obtain ⟨t,hs⟩:=hr.src;have hXl:X.length=512:=by rw [← hX,List.length_take,List.length_drop,hs.len];omega
 have HR:=Lib.hid hr;have x0:=hr.c0;have hB:=blk_ok w K.g a t K.S hs hr.off X hX hl;have HXL:=Lib.hid hXl;have HZ:=Lib.hid hz;have HH:=Lib.hid hh;have hbd:=headR_bd X;rw [hh] at hbd;obtain ⟨b0,b1,b2⟩:=hbd;have HBD:=Lib.hid (And.intro b0 (And.intro b1 b2));have HND:=Lib.hid hN;obtain ⟨kn,hkn⟩:∃ kn:Int,(h.kind.toNat:Int)=kn:=⟨_,rfl⟩;obtain rfl:kn=75:=by rw [← hkn,hkd];rfl
 have HK:=Lib.hid hkd;clear hkd;clear hr hs hl hX hXl hz hh b0 b1 b2 hN;have HKN:=Lib.hid hkn;clear hkn
 go_enter Tryz.func34,Tryz.ntmps34
 go_wp2_with fail
 refine hB.mono ?_
 rintro e w1 ⟨p,cc,t',rfl,hc1,hc2,h3,h4,h5⟩;have F:=Lib.hid (HR.out.moved h5 ⟨t',h4⟩);have HB1:=Lib.hid h3;have HC1:=Lib.hid (And.intro hc1 hc2);clear h3 h4 h5 hB x0 hc1 hc2
 go_wp2_with fail
 refine (zero512_any p cc X w1 HXL.out HB1.out).mono ?_
 rw [HZ.out];rintro e w2 ⟨rfl,rfl⟩
 go_wp2_with fail
 refine (parseH_any p 512 cc X w1 HXL.out HC1.out.1 HC1.out.2 HB1.out).mono ?_
 rw [HH.out];unfold headA headC;simp only [HKN.out];rintro e w3 ⟨rfl,hk3⟩;have hG:=(F.out.idle hk3).below ((Below.refl _ w3).alloc (Nat.le_refl _) (.cells #[.string (str h.name),.string (str h.link),.int .u8 75,.int .i64 h.mode,.int .i64 h.uid,.int .i64 h.gid,.int .i64 h.time,.int .i64 h.size,.bool h.gnu] 41));have b1:=Blk.new w3 41 #[.string (str h.name),.string (str h.link),.int .u8 75,.int .i64 h.mode,.int .i64 h.uid,.int .i64 h.gid,.int .i64 h.time,.int .i64 h.size,.bool h.gnu];have d0:=b1.cell 0;have d1:=b1.cell 1;have d2:=b1.cell 2;have d3:=b1.cell 3;have d4:=b1.cell 4
 have d5:=b1.cell 5;have d6:=b1.cell 6;have d7:=b1.cell 7;have d8:=b1.cell 8;simp only [List.getElem?_toArray,List.getElem?_cons_zero,List.getElem?_cons_succ] at d0 d1 d2 d3 d4 d5 d6 d7 d8;have G:=Lib.hid hG;clear hk3 b1 hG
 go_wp2_with fail
 refine (show Calls _ _ #[.pointer (some ⟨K.r,0,none⟩),.agg #[.string (str h.name),.string (str h.link),.int .u8 75,.int .i64 h.mode,.int .i64 h.uid,.int .i64 h.gid,.int .i64 h.time,.int .i64 h.size,.bool h.gnu]] _ (StepPost w0 K a (extD (K.S.bs.drop a) h s)) from by
  have:=ext_any G.out h HBD.out.1 (by rw [HK.out];rfl) HND.out
  unfold headC at this;rw [HKN.out] at this
  exact this).mono ?_
 intro e w4 hp
 obtain ⟨E,rfl⟩:∃ E,e=.returned (.int .i64 E):=by
  revert hp
  cases extD (K.S.bs.drop a) h s with
  | fault er => exact fun hp => ⟨er,hp.1⟩
  | done => exact fun hp => hp.elim
  | next k s' => exact fun hp => ⟨0,hp.1⟩
 have HP:=Lib.hid hp;clear hp
 go_wp2
 go_ret2
 exact ⟨E,rfl,HP.out⟩
set_option maxHeartbeats 2000000 in
theorem next_add (hr:Rd w0 w K a s mb v xs q n c) (X:List UInt8) (hX:(K.S.bs.drop a).take 512=X) (hl:a+512≤K.S.n) (hz:zeroB X=false) (h:HeadV) (hh:headR X=(h,0)) (hkd:isExt h.kind=false) (hN:Need w0) :
 Calls Tryz.prog 34 #[.pointer (some ⟨K.r,0,none⟩)] w fun e w' => ∃ E,e=.returned (.tuple #[.bool true,.int .i64 E])∧StepPost w0 K a (memD (K.S.bs.drop a) h s) (.returned (.int .i64 E)) w':=by
 obtain ⟨t,hs⟩:=hr.src;have hXl:X.length=512:=by rw [← hX,List.length_take,List.length_drop,hs.len];omega
 have HR:=Lib.hid hr;have x0:=hr.c0;have hB:=blk_ok w K.g a t K.S hs hr.off X hX hl;have HXL:=Lib.hid hXl;have HZ:=Lib.hid hz;have HH:=Lib.hid hh;have hbd:=headR_bd X;rw [hh] at hbd;obtain ⟨b0,b1,b2⟩:=hbd;have HBD:=Lib.hid (And.intro b0 (And.intro b1 b2));have HND:=Lib.hid hN;obtain ⟨kn,hkn⟩:∃ kn:Int,(h.kind.toNat:Int)=kn:=⟨_,rfl⟩
 have e4:(kn == 120)=false∧(kn == 103)=false∧(kn == 76)=false∧(kn == 75)=false:=by
  have hu:=fun m hm => u8_lit h.kind m hm
  unfold isExt at hkd;simp only [Bool.or_eq_false_iff,beq_eq_false_iff_ne] at hkd;obtain ⟨⟨⟨k1,k2⟩,k3⟩,k4⟩:=hkd;simp only [beq_eq_false_iff_ne];exact ⟨fun e => k1 ((hu 120 (by decide)).1 (hkn.trans e)),fun e => k2 ((hu 103 (by decide)).1 (hkn.trans e)),fun e => k3 ((hu 76 (by decide)).1 (hkn.trans e)),fun e => k4 ((hu 75 (by decide)).1 (hkn.trans e))⟩
 obtain ⟨e1,e2,e3,e4⟩:=e4;clear hkd;clear hr hs hl hX hXl hz hh b0 b1 b2 hN;have HKN:=Lib.hid hkn;clear hkn
 go_enter Tryz.func34,Tryz.ntmps34
 go_wp2_with fail
 refine hB.mono ?_
 rintro e w1 ⟨p,cc,t',rfl,hc1,hc2,h3,h4,h5⟩;have F:=Lib.hid (HR.out.moved h5 ⟨t',h4⟩);have HB1:=Lib.hid h3;have HC1:=Lib.hid (And.intro hc1 hc2);clear h3 h4 h5 hB x0 hc1 hc2
 go_wp2_with fail
 refine (zero512_any p cc X w1 HXL.out HB1.out).mono ?_
 rw [HZ.out];rintro e w2 ⟨rfl,rfl⟩
 go_wp2_with fail
 refine (parseH_any p 512 cc X w1 HXL.out HC1.out.1 HC1.out.2 HB1.out).mono ?_
 rw [HH.out];unfold headA headC;simp only [HKN.out];rintro e w3 ⟨rfl,hk3⟩;have hG:=(F.out.idle hk3).below ((Below.refl _ w3).alloc (Nat.le_refl _) (.cells #[.string (str h.name),.string (str h.link),.int .u8 kn,.int .i64 h.mode,.int .i64 h.uid,.int .i64 h.gid,.int .i64 h.time,.int .i64 h.size,.bool h.gnu] 41));have b1:=Blk.new w3 41 #[.string (str h.name),.string (str h.link),.int .u8 kn,.int .i64 h.mode,.int .i64 h.uid,.int .i64 h.gid,.int .i64 h.time,.int .i64 h.size,.bool h.gnu];have d0:=b1.cell 0;have d1:=b1.cell 1;have d2:=b1.cell 2;have d3:=b1.cell 3;have d4:=b1.cell 4
 have d5:=b1.cell 5;have d6:=b1.cell 6;have d7:=b1.cell 7;have d8:=b1.cell 8;simp only [List.getElem?_toArray,List.getElem?_cons_zero,List.getElem?_cons_succ] at d0 d1 d2 d3 d4 d5 d6 d7 d8;have G:=Lib.hid hG;clear hk3 b1 hG
 go_wp2_with fail
 refine (show Calls _ _ #[.pointer (some ⟨K.r,0,none⟩),.agg #[.string (str h.name),.string (str h.link),.int .u8 kn,.int .i64 h.mode,.int .i64 h.uid,.int .i64 h.gid,.int .i64 h.time,.int .i64 h.size,.bool h.gnu]] _ (StepPost w0 K a (memD (K.S.bs.drop a) h s)) from by
  have:=add_any G.out h HND.out HBD.out.1 (by have:=HBD.out.2.1;omega) (by have:=HBD.out.2.2;omega)
  unfold headC at this;rw [HKN.out] at this
  exact this).mono ?_
 intro e w4 hp
 obtain ⟨E,rfl⟩:∃ E,e=.returned (.int .i64 E):=by
  revert hp
  cases memD (K.S.bs.drop a) h s with
  | fault er => exact fun hp => ⟨er,hp.1⟩
  | done => exact fun hp => hp.elim
  | next k s' => exact fun hp => ⟨0,hp.1⟩
 have HP:=Lib.hid hp;clear hp
 go_wp2
 go_ret2
 exact ⟨E,rfl,HP.out⟩
theorem next_of {st:Step} (hd:st ≠ .done) (h:Calls Tryz.prog 34 #[.pointer (some ⟨K.r,0,none⟩)] w fun e w' => ∃ E,e=.returned (.tuple #[.bool true,.int .i64 E])∧StepPost w0 K a st (.returned (.int .i64 E)) w') :
 Calls Tryz.prog 34 #[.pointer (some ⟨K.r,0,none⟩)] w (NextPost w0 K a s mb v xs q n c st):=by
 refine h.mono ?_
 rintro e w' ⟨E,rfl,hp⟩
 cases st with
 | fault er =>
   obtain ⟨h1,h2⟩:=hp;simp only [Ending.returned.injEq,Value.int.injEq,true_and] at h1;subst h1;exact ⟨⟨true,rfl⟩,h2⟩
 | done => exact absurd rfl hd
 | next k s' =>
   obtain ⟨h1,h2⟩:=hp;simp only [Ending.returned.injEq,Value.int.injEq,true_and] at h1;subst h1;exact ⟨rfl,h2⟩
theorem extD_done (l:List UInt8) (h:HeadV) (s:RS):extD l h s ≠ .done:=by
 unfold extD
 split
 ·exact fun h => by cases h
 ·split
  ·exact fun h => by cases h
  ·split
   ·exact fun h => by cases h
   ·split
    ·exact fun h => by cases h
    ·split
     ·exact fun h => by cases h
     ·split
      ·exact fun h => by cases h
      ·split<;>exact fun h => by cases h
theorem memD_done (l:List UInt8) (h:HeadV) (s:RS):memD l h s ≠ .done:=by
 unfold memD
 split
 ·exact fun h => by cases h
 ·split
  ·exact fun h => by cases h
  ·split
   ·exact fun h => by cases h
   ·split<;>exact fun h => by cases h
theorem next_any (hr:Rd w0 w K a s mb v xs q n c) (hN:Need w0) :
 Calls Tryz.prog 34 #[.pointer (some ⟨K.r,0,none⟩)] w (NextPost w0 K a s mb v xs q n c (stepD (K.S.bs.drop a) s)):=by
 obtain ⟨t,hs⟩:=hr.src;have hlen:=hs.len;have hle:=hs.le;have hLL:(K.S.bs.drop a).length=K.S.n - a:=by rw [List.length_drop,hlen]
 unfold stepD
 by_cases h1:(K.S.bs.drop a).length < 512
 ·rw [if_pos h1]
  exact (next_short hr (by omega)).mono fun e w' h => ⟨⟨false,h.1⟩,h.2⟩
 ·rw [if_neg h1]
  have hl:a+512≤K.S.n:=by omega
  obtain ⟨X,hX⟩:∃ X,(K.S.bs.drop a).take 512=X:=⟨_,rfl⟩;rw [hX]
  by_cases h2:zeroB X=true
  ·rw [if_pos h2]
   refine (next_end hr X hX hl h2).mono ?_
   rintro e w' ⟨rfl,a',hR⟩;unfold endE;rw [List.drop_drop,hLL,Nat.sub_sub,show (K.S.bs.drop (a+512)).length=K.S.n - (a+512) by rw [List.length_drop,hlen]]
   by_cases h3:K.S.n - (a+512) < 512
   ·rw [if_pos h3,if_pos h3]
    exact ⟨⟨false,rfl⟩,hR.bel⟩
   ·rw [if_neg h3,if_neg h3]
    by_cases h4:zeroB (K.S.bs.drop (a+512))=false
    ·rw [if_pos h4,if_pos h4]
     exact ⟨⟨false,rfl⟩,hR.bel⟩
    ·rw [if_neg h4,if_neg h4]
     by_cases h5:s.hasX=true ∨ s.name.isSome=true ∨ s.link.isSome=true
     ·rw [if_pos h5,if_pos h5]
      exact ⟨⟨false,rfl⟩,hR.bel⟩
     ·rw [if_neg h5,if_neg h5]
      exact ⟨rfl,a',hR⟩
  ·rw [if_neg h2]
   have h2':zeroB X=false:=by simpa using h2
   by_cases h3:(headR X).2≠0
   ·rw [if_pos h3]
    exact (next_nohead hr X hX hl h2' h3).mono fun e w' h => ⟨⟨false,h.1⟩,h.2⟩
   ·rw [if_neg h3]
    have h4:headR X=((headR X).1,0):=Prod.ext rfl (Classical.byContradiction h3)
    by_cases h5:isExt (headR X).1.kind=true
    ·rw [if_pos h5]
     refine next_of (extD_done _ _ _) ?_
     have h6:=h5;unfold isExt at h6;simp only [Bool.or_eq_true,beq_iff_eq] at h6;rcases h6 with ((h6 | h6) | h6) | h6
     ·exact next_ext120 hr X hX hl h2' _ h4 h6 hN
     ·exact next_ext103 hr X hX hl h2' _ h4 h6 hN
     ·exact next_ext76 hr X hX hl h2' _ h4 h6 hN
     ·exact next_ext75 hr X hX hl h2' _ h4 h6 hN
    ·rw [if_neg h5]
     exact next_of (memD_done _ _ _) (next_add hr X hX hl h2' _ h4 (by simpa using h5) hN)
end
end Go.Proofs.YtnpkcneojilmkaaGreatDoor.Mem
end
section
namespace Go.Proofs.YtnpkcneojilmkaaGreatDoor.Mem
open Go.ChangeShapes Go.WideShapes Go.ChangeAt Go.RowKit Base Byt Txt Bk Mk Block Hp Head Attr Rec Go.Lib
set_option linter.unusedVariables false
set_option maxRecDepth 100000
theorem wait_start (q:Option Addr) (n c:Nat):waitF startS q n c=fun _ => none:=by
 funext k
 unfold waitF startS;simp
def NewRd (w:World) (bs:List UInt8) (e:Ending) (w':World):Prop:=
 ∃ K:RK,e=.returned (.pointer (some ⟨K.r,0,none⟩))∧K.S.bs=bs∧Rd w w' K 0 startS none (.slice none 0 0) [] none 0 0
theorem newRd_end {w w1:World} {g:Nat} {S:Sv} (hg:w.heap.size≤g) (ho:S.off g) (hs:Block.Src w1 g S 0 0) (hk:Kept noneB w w1) :
 Rd w (((w1.alloc (.cells #[.map none] 95)).alloc (.map #[] 0)).alloc (.cells #[.pointer (some ⟨g,0,none⟩),.pointer (some ⟨w1.heap.size,0,none⟩),.map (some (w1.heap.size+1)),.slice none 0 0] 74))
  ⟨w1.heap.size+1+1,g,w1.heap.size,w1.heap.size+1,S⟩ 0 startS none (.slice none 0 0) [] none 0 0:=by
 have hgl:=hs.lt
 have hka:Kept noneB w1 (((w1.alloc (.cells #[.map none] 95)).alloc (.map #[] 0)).alloc (.cells #[.pointer (some ⟨g,0,none⟩),.pointer (some ⟨w1.heap.size,0,none⟩),.map (some (w1.heap.size+1)),.slice none 0 0] 74)):=
  (((Kept.refl noneB w1).alloc _).alloc _).alloc _
 have hsz:=hk.size
 have ot:∀ y,y < w1.heap.size → ¬ Ot ⟨w1.heap.size+1+1,g,w1.heap.size,w1.heap.size+1,S⟩ none (.slice none 0 0) y:=fun y hy e => by
  rcases e with e | e | e | e | e
  ·have e:y=w1.heap.size+1+1:=e;omega
  ·have e:y=w1.heap.size:=e;omega
  ·have e:y=w1.heap.size+1:=e;omega
  ·cases e
  ·cases e
 have hst:=(St.new w1).kept (((Kept.refl noneB (w1.alloc (.cells #[.map none] 95))).alloc (.map #[] 0)).alloc (.cells #[.pointer (some ⟨g,0,none⟩),.pointer (some ⟨w1.heap.size,0,none⟩),.map (some (w1.heap.size+1)),.slice none 0 0] 74)) (fun _ _ => id)
 have hmk:=(mapK_made u8K (w1.alloc (.cells #[.map none] 95))).kept ((Kept.refl noneB _).alloc (.cells #[.pointer (some ⟨g,0,none⟩),.pointer (some ⟨w1.heap.size,0,none⟩),.map (some (w1.heap.size+1)),.slice none 0 0] 74)) id;have hbl:=Blk.new ((w1.alloc (.cells #[.map none] 95)).alloc (.map #[] 0)) 74 #[.pointer (some ⟨g,0,none⟩),.pointer (some ⟨w1.heap.size,0,none⟩),.map (some (w1.heap.size+1)),.slice none 0 0];simp only [World.size_alloc] at hmk hbl
 exact {
  bel:=(hk.trans hka).below (Nat.le_refl _) (fun _ h => h.elim)
  blk:=hbl
  src:=⟨0,hs.kept0 hka⟩
  off:=ho
  st:=hst
  map:=by rw [wait_start];exact hmk
  own:=⟨rfl,fun h => by omega⟩
  own0:=fun _ => rfl
  row:=⟨rfl,.inl ⟨rfl,rfl⟩⟩
  out:=rfl
  bodies:=fun x hx => by simp at hx
  apart:=fun x hx => by simp at hx
  sp:=fun h0 y hy => ot _ (bat_lt hs.bat h0 hy)
  sq:=fun h0 y hy => ot _ (iat_lt hs.iat h0 hy)
  ne:=⟨by show w1.heap.size+1+1≠g;omega,by show w1.heap.size+1+1≠w1.heap.size;omega,by show w1.heap.size+1+1≠w1.heap.size+1;omega,by show g≠w1.heap.size;omega,by show g≠w1.heap.size+1;omega,by show w1.heap.size≠w1.heap.size+1;omega⟩
  neB:=fun b hb => by cases hb
  neV:=fun b hb => by cases hb
  base:=⟨by show w.heap.size≤w1.heap.size+1+1;omega,hg,hsz,by show w.heap.size≤w1.heap.size+1;omega⟩
  many:=by show 0≤4096;omega
  gl:=(fun r hr => by cases hr)
  ol:=⟨(fun r hr => by cases hr),by show 0≤1048576;omega⟩
  nl:=fun t ht => by cases ht
  ll:=fun t ht => by cases ht }
theorem newReader_any (w:World) (p:Option Addr) (n c:Nat) (bs:List UInt8) (q:Option Addr) (m d:Nat) (zs:List Int) (hb:BAt w p n bs) (hl:bs.length=n) (hn:n≤140737488351232) (hq:IAt w q m zs) (hz:zs.length=m) (hm:m * 8≤140737488351232) :
 Calls Tryz.prog 32 #[.slice p n c,.slice q m d] w (NewRd w bs):=by
 have hN:=new_any w p n c bs q m d zs hb hl hn hq hz hm;have hmm:=@run_makeMap Tryz.prog;clear hb hl hn hq hz hm
 go_enter Tryz.func32,Tryz.ntmps32
 go_wp2_with fail
 refine hN.mono ?_
 rintro e w1 ⟨g,S,rfl,h1,h2,h3,h4,h5,h6,h7,h8,h9⟩;have F:=Lib.hid (And.intro h2 (newRd_end h1 h5 h8 h9));clear h1 h2 h3 h4 h5 h6 h7 h8 h9 hN
 go_wp2
 go_ret
 exact ⟨⟨w1.heap.size+1+1,g,w1.heap.size,w1.heap.size+1,S⟩,rfl,F.out.1,F.out.2⟩
end Go.Proofs.YtnpkcneojilmkaaGreatDoor.Mem
end
section
namespace Go.Proofs.YtnpkcneojilmkaaGreatDoor.Mem
open Go.ChangeShapes Go.WideShapes Go.ChangeAt Go.RowKit Base Byt Txt Bk Mk Block Hp Head Attr Rec Path Go.Lib Go.Shelf
set_option linter.unusedVariables false
set_option maxRecDepth 100000
theorem ret_fault {fn:Func} (hf:fn.results=#[.tmp 4,.cell 5 44]) (tmps:Array Value) (w:World) (g:Nat) (v:Value) (ht:tmps.getD 5 undef=.pointer (some ⟨g,0,none⟩)) (hv:tmps.getD 4 undef=v)
 (a b:Int) (hb:Blk w g 44 #[.int .i64 a,.int .i64 b]):(results fn tmps).run Tryz.prog w=.ok (.tuple #[v,.agg #[.int .i64 a,.int .i64 b]]) w:=by
 have c0:=hb.cell 0;have c1:=hb.cell 1;simp only [List.getElem?_toArray,List.getElem?_cons_zero,List.getElem?_cons_succ] at c0 c1;have hl:(loadVar 44 ⟨g,0,none⟩).run Tryz.prog w=.ok (.agg #[.int .i64 a,.int .i64 b]) w:=by go_simp
 have ht':tmps[5]?.getD undef=.pointer (some ⟨g,0,none⟩):=by simpa using ht
 have hv':tmps[4]?.getD undef=v:=by simpa using hv
 simp only [results,hf];simp [Result.andThen,ht',hv',asAddr,hl]
theorem bat_off_blk {w:World} {p:Option Addr} {n:Nat} {bs:List UInt8} {b:Nat} {t:TypeId} {cs:Array Value} (h:BAt w p n bs) (hb:Blk w b t cs) (hs:∀ (i:Nat) (x:Int),cs[i]? ≠ some (.int .u8 x)) (h0:0 < n) {y:Addr} (hy:p=some y):y.block≠b:=by
 obtain ⟨b',o,rfl,_,hc⟩:=h.cell h0
 cases hy
 rintro rfl;have c0:=hc 0 h0;rw [hb.cell] at c0;exact hs _ _ c0
def ReadD (w:World) (bs:List UInt8) (e:Ending) (w':World):Prop:=
 ∃ (p:Option Addr) (c:Nat) (xs:List MP),e=.returned (.tuple #[.slice p xs.length c,.agg #[.int .i64 (membersD bs).2.1,.int .i64 ((membersD bs).2.2:Nat)]])∧xs.length≤c∧c≤maxLen∧xs.map MP.m=(membersD bs).1∧MemsAt w' p xs.length xs∧Below w.heap.size w w'
set_option maxHeartbeats 4000000 in
theorem memRead_any (w:World) (p:Option Addr) (n c:Nat) (bs:List UInt8) (q:Option Addr) (m d:Nat) (zs:List Int) (hb:BAt w p n bs) (hl:bs.length=n) (hn:n≤140737488351232) (hq:IAt w q m zs) (hz:zs.length=m) (hm:m * 8≤140737488351232) (hN:Need w) :
 Calls Tryz.prog 15 #[.slice p n c,.slice q m d] w (ReadD w bs):=by
 obtain ⟨W1,hW1⟩:∃ W1,w.alloc (.cells #[.int .i64 0,.int .i64 0] 44)=W1:=⟨_,rfl⟩;have hB1:Below w.heap.size w W1:=by rw [← hW1];exact (Below.refl _ w).alloc (Nat.le_refl _) _
 have hX1:Blk W1 w.heap.size 44 #[.int .i64 0,.int .i64 0]:=by rw [← hW1];exact Blk.new w _ _
 have hNR:=newReader_any W1 p n c bs q m d zs (hb.below hB1) hl hn (hq.kept (Kept.of_below hB1 noneB) (fun _ _ _ => id)) hz hm
 have HB1:=Lib.hid hB1;have HX1:=Lib.hid hX1;have HND:=Lib.hid (hN.below hB1);have HLN:=Lib.hid hl;clear hb hl hn hq hz hm hN hB1 hX1
 go_enter Tryz.func15,Tryz.ntmps15
 go_upto_region 1 with fail
 clear hW1
 go_wp2_with fail
 refine hNR.mono ?_
 rintro e w2 ⟨K,rfl,hbs,hR⟩;have HBS:=Lib.hid hbs;have HR:=Lib.hid hR;clear hbs hR hNR
 go_wp2_with fail
 go_loopg [7,8,9] bs.length (fun g s7 s8 s9 wr => Hid (∃ (a:Nat) (s:RS) (mb:Option Nat) (v:Value) (xs:List MP) (q:Option Addr) (n c:Nat),Rd W1 wr K a s mb v xs q n c∧readFrom bs 0 startS=readFrom (bs.drop a) a s∧g=bs.length - a))
 case atStart => exact Lib.hid ⟨0,startS,none,.slice none 0 0,[],none,0,0,HR.out,by rw [List.drop_zero],rfl⟩
 case round =>
  obtain ⟨a,s,mb,v,xs,q,n,c,hR,hrf,rfl⟩:=hrel.out;obtain ⟨t,hs⟩:=hR.src;have hP:=place_any wr K.g a t K.S hs;have hNx:=next_any hR HND.out;rw [HBS.out] at hNx;have x0:=hR.c0;have HRD:=Lib.hid hR;have HRF:=Lib.hid hrf;obtain ⟨st,hst⟩:∃ st,stepD (bs.drop a) s=st:=⟨_,rfl⟩;rw [hst] at hNx;have HST:=Lib.hid hst;have hXr:=HX1.out.below hR.bel HX1.out.lt;clear hR hrf hs hst hrel
  go_wp2_with fail
  refine hP.mono ?_
  rintro e w3 ⟨rfl,rfl⟩
  go_wp2_with fail
  refine hNx.mono ?_
  clear hNx hP hXr;intro e w4 hp
  cases st with
  | fault er =>
    obtain ⟨⟨b,rfl⟩,hb4⟩:=hp;have hne:=step_fault HST.out;have hE0:(er != 0)=true:=by simpa using hne
    have b4:=HX1.out.below hb4 HX1.out.lt;have r0:=b4.cell 0;have r1:=b4.cell 1;have f0:=b4.frozen 0;have f1:=b4.frozen 1;simp only [List.getElem?_toArray,List.getElem?_cons_zero,List.getElem?_cons_succ] at r0 r1;have HX4:=Lib.hid b4;have HB4:=Lib.hid hb4
    have E:Hid (membersD bs=([],er,a)):=Lib.hid (by
     show readFrom bs 0 startS=_
     rw [HRF.out,readFrom_fault HST.out])
    clear hb4 hne b4 x0
    go_wp2
    refine bodyPost_ret (ret_fault rfl _ _ w.heap.size _ rfl rfl er (a:Int) ((HX4.out.set 0 (.int .i64 er) (by decide:0 < 2)).set 1 (.int .i64 (a:Int)) (by decide:1 < 2))) rfl ?_
    refine ⟨none,0,[],?_,by simp,by decide,?_,mems_nil _ _,?_⟩
    ·rw [E.out];rfl
    ·rw [E.out];rfl
    ·exact ((HB1.out.trans (HB4.out.mono HB1.out.size)).setCell (p:=⟨w.heap.size,0,none⟩) (Nat.le_refl _) _).setCell (p:=⟨w.heap.size,1,none⟩) (Nat.le_refl _) _
  | done =>
    obtain ⟨rfl,a',hR4⟩:=hp;have b4:=HX1.out.below hR4.bel HX1.out.lt;have r0:=b4.cell 0;have r1:=b4.cell 1;have f0:=b4.frozen 0;have f1:=b4.frozen 1;simp only [List.getElem?_toArray,List.getElem?_cons_zero,List.getElem?_cons_succ] at r0 r1;have HX4:=Lib.hid b4;have x3:=hR4.c3;have HR4:=Lib.hid hR4
    have E:Hid (membersD bs=(s.out,0,0)):=Lib.hid (by
     show readFrom bs 0 startS=_
     rw [HRF.out,readFrom_done HST.out])
    clear hR4 b4 x0
    go_wp2
    have hb5:Below w.heap.size w ((w4.setCell ⟨w.heap.size,0,none⟩ (.int .i64 0)).setCell ⟨w.heap.size,1,none⟩ (.int .i64 0)):=
     ((HB1.out.trans (HR4.out.bel.mono HB1.out.size)).setCell (p:=⟨w.heap.size,0,none⟩) (Nat.le_refl _) _).setCell (p:=⟨w.heap.size,1,none⟩) (Nat.le_refl _) _
    refine bodyPost_ret (ret_fault rfl _ _ w.heap.size _ rfl rfl 0 0 ((HX4.out.set 0 (.int .i64 0) (by decide:0 < 2)).set 1 (.int .i64 0) (by decide:1 < 2))) rfl ?_
    have hk5:Kept (oneB w.heap.size) w4 ((w4.setCell ⟨w.heap.size,0,none⟩ (.int .i64 0)).setCell ⟨w.heap.size,1,none⟩ (.int .i64 0)):=
     ((Kept.refl (oneB w.heap.size) w4).setCell (a:=⟨w.heap.size,0,none⟩) (.inr rfl) _).setCell (a:=⟨w.heap.size,1,none⟩) (.inr rfl) _
    have hx1:=HX1.out.lt
    obtain ⟨p5,c5,rfl,h51,h52,h53⟩:=mems_own (ownsRow_kept HR4.out.row hk5 (fun k hk e => by
     have h1:=(HR4.out.row.lt k hk).1;have h2:k=w.heap.size:=e
     omega)) (fun x hx => (HR4.out.bodies x hx).kept hk5 (fun h0 y hy e => bat_off_blk (HR4.out.bodies x hx).bat HX4.out (fun i z hz => by rcases i with _ | _ | i<;>simp at hz) h0 hy e))
    refine ⟨p5,c5,xs,?_,h51,h52,?_,h53,hb5⟩
    ·rw [E.out];rfl
    ·rw [E.out];exact HR4.out.out
  | next k s' =>
    obtain ⟨rfl,mb',v',xs',q',n',c',hR4⟩:=hp;have HR4:=Lib.hid hR4;have hstep:=step_next HST.out
    have E:Hid (readFrom bs 0 startS=readFrom (bs.drop (a+k)) (a+k) s'):=Lib.hid (by
     rw [HRF.out,readFrom_next HST.out,List.drop_drop])
    have HSTEP:=Lib.hid hstep;clear hR4 hstep x0
    go_wp2
    go_roundg (bs.length - (a+k))
    case measure => have:=HSTEP.out;rw [List.length_drop] at this;omega
    case rel => exact Lib.hid ⟨a+k,s',mb',v',xs',q',n',c',HR4.out,E.out,rfl⟩
end Go.Proofs.YtnpkcneojilmkaaGreatDoor.Mem
end
section
namespace Go.Proofs.YtnpkcneojilmkaaGreatDoor.Mem
open Go.ChangeShapes Go.WideShapes Go.ChangeAt Go.RowKit Base Byt Txt Bk Hp Block Attr Rec Go.Lib
set_option linter.unusedVariables false
set_option maxRecDepth 100000
set_option linter.unusedSectionVars false
structure RRd (w0 w:World) (bs:List UInt8) (a:Nat) (s:RS) (vo:Value) (xs:List MP) (vg:Value) (q:Option Addr) (n c:Nat) (nm lk:List UInt8) (hx hl hk:Bool):Prop where
 bel:Below w0.heap.size w0 w
 row:w.ownsRow w0.heap.size 26 8 vo xs.length (flatM xs)
 out:xs.map MP.m=s.out
 bodies:∀ x ∈ xs,BodyAt w x
 glob:w.ownsRow w0.heap.size 37 2 vg s.glob.length (flatR s.glob)
 own:RecsAt w q n s.own
 offX:∀ x ∈ xs,0 < x.m.body.length → ∀ z,x.p=some z → vo.ownBlock≠some z.block∧vg.ownBlock≠some z.block
 offQ:0 < n → ∀ z,q=some z → vo.ownBlock≠some z.block∧vg.ownBlock≠some z.block
 name:s.name=if hl then some nm else none
 link:s.link=if hk then some lk else none
 hasX:s.hasX=hx
 lenG:∀ r ∈ s.glob,r.2.length≤1048576
 lenO:∀ r ∈ s.own,r.2.length≤1048576
 lenN:nm.length≤1048576∧lk.length≤1048576∧n≤1048576
 gsz:s.glob.length≤a
 full:s.out.length≤4096
 le:a≤bs.length
 read:readFrom (bs.drop a) a s=membersD bs
section
variable {w0 w w':World} {bs:List UInt8} {a:Nat} {s:RS} {vo:Value} {xs:List MP} {vg:Value} {q:Option Addr} {n c:Nat} {nm lk:List UInt8} {hx hl hk:Bool}
theorem RRd.below (h:RRd w0 w bs a s vo xs vg q n c nm lk hx hl hk) (hb:Below w.heap.size w w'):RRd w0 w' bs a s vo xs vg q n c nm lk hx hl hk where
 bel:=h.bel.trans (hb.mono h.bel.size)
 row:=row_below h.row hb
 out:=h.out
 bodies:=fun x hx => (h.bodies x hx).below hb
 glob:=row_below h.glob hb
 own:=h.own.below hb
 offX:=h.offX
 offQ:=h.offQ
 name:=h.name
 link:=h.link
 hasX:=h.hasX
 lenG:=h.lenG
 lenO:=h.lenO
 lenN:=h.lenN
 gsz:=h.gsz
 full:=h.full
 le:=h.le
 read:=h.read
theorem RRd.len (h:RRd w0 w bs a s vo xs vg q n c nm lk hx hl hk):xs.length=s.out.length:=by have:=congrArg List.length h.out;simpa using this
theorem RRd.fault (h:RRd w0 w bs a s vo xs vg q n c nm lk hx hl hk) {e:Int} (hs:stepD (bs.drop a) s=.fault e) {wa wz:World} (hb:Below wa.heap.size wa wz) :
 ReadD wa bs (.returned (.tuple #[.slice none 0 0,.agg #[.int .i64 e,.int .i64 (a:Int)]])) wz:=by
 have hm:membersD bs=([],e,a):=by rw [← h.read,readFrom_fault hs]
 refine ⟨none,0,[],?_,Nat.le_refl _,by decide,?_,mems_nil _ _,hb⟩
 ·rw [hm];rfl
 ·rw [hm];rfl
theorem RRd.done (h:RRd w0 w bs a s vo xs vg q n c nm lk hx hl hk) (hs:stepD (bs.drop a) s=.done) {g:Nat} (hg:g < w0.heap.size) (hX:Blk w g 44 #[.int .i64 0,.int .i64 0]) {wa wz:World} (hk:Kept (oneB g) w wz) (hb:Below wa.heap.size wa wz) :
 ReadD wa bs (.returned (.tuple #[vo,.agg #[.int .i64 0,.int .i64 0]])) wz:=by
 have hm:membersD bs=(s.out,0,0):=by rw [← h.read,readFrom_done hs]
 obtain ⟨p,c,rfl,h1,h2,h3⟩:=mems_own (ownsRow_kept h.row hk (fun k hk e => by
  have h1:=(World.ownsRow.lt h.row k hk).1;have h2:k=g:=e
  omega)) (fun x hx => (h.bodies x hx).kept hk (fun h0 y hy e => bat_off_blk (h.bodies x hx).bat hX (fun i z hz => by rcases i with _ | _ | i<;>simp at hz) h0 hy e))
 refine ⟨p,c,xs,?_,h1,h2,?_,h3,hb⟩
 ·rw [hm];rfl
 ·rw [hm];exact h.out
end
end Go.Proofs.YtnpkcneojilmkaaGreatDoor.Mem
end
section
namespace Go.Proofs.YtnpkcneojilmkaaGreatDoor.Mem
open Go.ChangeShapes Go.WideShapes Go.ChangeAt Go.RowKit Base Byt Txt Bk Hp Head Num Path Go.Lib
set_option linter.unusedVariables false
set_option maxRecDepth 100000
theorem eqMeta_deep (a b c d a' b' c' d':Int) (n:Nat) (w:World):(Op.equalIn (n+1+1) 23 (.agg #[.int .i64 a,.int .i64 b,.int .i64 c,.int .i64 d]) (.agg #[.int .i64 a',.int .i64 b',.int .i64 c',.int .i64 d'])).run Tryz.prog w=.ok (decide (a=a'∧b=b'∧c=c'∧d=d')) w:=by
 have hM:Tryz.prog.underlying 23=some (.struct (Tryz.prog.fieldsOf 23)):=by kernel_rfl
 have pM:Tryz.prog.stoodInHeld 23=false:=by kernel_rfl
 rw [run_equalIn_agg (P:=Tryz.prog) w (n+1) 23 _ _ hM pM];clear hM pM;simp only [Program.fieldsOf,Tryz.underlying23]
 go_simp
 by_cases h4:a=a'<;>by_cases h5:b=b'<;>by_cases h6:c=c'<;>by_cases h7:d=d'<;>simp [h4,h5,h6,h7]
theorem eqMeta (a b c d a' b' c' d':Int) (w:World):(binOp .eql 23 (.agg #[.int .i64 a,.int .i64 b,.int .i64 c,.int .i64 d]) (.agg #[.int .i64 a',.int .i64 b',.int .i64 c',.int .i64 d'])).run Tryz.prog w=.ok (.bool (decide (a=a'∧b=b'∧c=c'∧d=d'))) w:=by
 rw [run_eql_struct,show (10000:Nat)=9998+1+1 from rfl,eqMeta_deep]
 rfl
theorem same_is (a b:MemV):decide (a=b)=(decide (a.path=b.path) && (decide (a.target=b.target) && ((((a.kind.toNat:Int)) == (b.kind.toNat:Int)) && (decide (a.mode=b.mode∧a.uid=b.uid∧a.gid=b.gid∧a.time=b.time) && decide (a.body=b.body))))):=by
 have s2:(((a.kind.toNat:Int)) == (b.kind.toNat:Int))=decide (a.kind=b.kind):=by
  by_cases h:a.kind=b.kind
  ·simp [h]
  ·have:¬ a.kind.toNat=b.kind.toNat:=fun hh => h (UInt8.toNat.inj hh)
   simp only [h,decide_false,beq_eq_false_iff_ne,ne_eq];omega
 rw [s2,Bool.eq_iff_iff];simp only [decide_eq_true_eq,Bool.and_eq_true];constructor
 ·rintro rfl;simp
 ·rintro ⟨h1,h2,h3,⟨h4,h5,h6,h7⟩,h8⟩
  cases a;cases b;simp_all
set_option maxHeartbeats 4000000 in
theorem rsame_any (a b:MemV) (p q:Option Addr) (c d:Nat) (w:World) (h1:BAt w p a.body.length a.body) (h2:BAt w q b.body.length b.body) :
 Calls Tryz.prog 16 #[.agg (memC a p c),.agg (memC b q d)] w fun e w' => e=.returned (.bool (decide (a=b)))∧Below w.heap.size w w':=by
 rw [same_is];unfold memC;obtain ⟨n,hn⟩:∃ n,a.body.length=n:=⟨_,rfl⟩;obtain ⟨m,hm⟩:∃ m,b.body.length=m:=⟨_,rfl⟩;obtain ⟨ka,hka⟩:∃ k:Int,(a.kind.toNat:Int)=k:=⟨_,rfl⟩;obtain ⟨kb,hkb⟩:∃ k:Int,(b.kind.toNat:Int)=k:=⟨_,rfl⟩;rw [hn] at h1;rw [hm] at h2;rw [hn,hm,hka,hkb]
 have e1:((str a.path).toList == (str b.path).toList)=decide (a.path=b.path):=by
  rw [str_toList,str_toList]
  by_cases h:a.path=b.path<;>simp [h]
 have e2:((str a.target).toList == (str b.target).toList)=decide (a.target=b.target):=by
  rw [str_toList,str_toList]
  by_cases h:a.target=b.target<;>simp [h]
 have e4:=fun w => eqMeta a.mode a.uid a.gid a.time b.mode b.uid b.gid b.time w
 obtain ⟨x1,hx1⟩:∃ x,decide (a.path=b.path)=x:=⟨_,rfl⟩;obtain ⟨x2,hx2⟩:∃ x,decide (a.target=b.target)=x:=⟨_,rfl⟩;obtain ⟨x3,e3⟩:∃ x,(ka == kb)=x:=⟨_,rfl⟩;obtain ⟨x4,hx4⟩:∃ x,decide (a.mode=b.mode∧a.uid=b.uid∧a.gid=b.gid∧a.time=b.time)=x:=⟨_,rfl⟩;obtain ⟨x5,hx5⟩:∃ x,decide (a.body=b.body)=x:=⟨_,rfl⟩;rw [hx1] at e1;rw [hx2] at e2;simp only [hx4] at e4;rw [hx1,hx2,e3,hx4,hx5];have HX5:=Lib.hid hx5;have HL:=Lib.hid (And.intro hn hm);clear hx1 hx2 hx4 hx5 hn hm hka hkb;obtain ⟨W2,hW2⟩:∃ W2,(w.alloc (.cells #[.string (str a.path),.string (str a.target),.int .u8 ka,.int .i64 a.mode,.int .i64 a.uid,.int .i64 a.gid,.int .i64 a.time,.slice p n c] 26)).alloc (.cells #[.string (str b.path),.string (str b.target),.int .u8 kb,.int .i64 b.mode,.int .i64 b.uid,.int .i64 b.gid,.int .i64 b.time,.slice q m d] 26)=W2:=⟨_,rfl⟩
 have hB:Below w.heap.size w W2:=by rw [← hW2];exact ((Below.refl w.heap.size w).alloc (Nat.le_refl _) _).alloc (by simp) _
 have HB:=Lib.hid hB;have HA:=Lib.hid (h1.below hB);have HBB:=Lib.hid (h2.below hB);have hX:Blk W2 w.heap.size 26 #[.string (str a.path),.string (str a.target),.int .u8 ka,.int .i64 a.mode,.int .i64 a.uid,.int .i64 a.gid,.int .i64 a.time,.slice p n c]:=by rw [← hW2];exact (Blk.new w _ _).alloc _
 have hY:Blk W2 (w.heap.size+1) 26 #[.string (str b.path),.string (str b.target),.int .u8 kb,.int .i64 b.mode,.int .i64 b.uid,.int .i64 b.gid,.int .i64 b.time,.slice q m d]:=by
  have:=Blk.new (w.alloc (.cells #[.string (str a.path),.string (str a.target),.int .u8 ka,.int .i64 a.mode,.int .i64 a.uid,.int .i64 a.gid,.int .i64 a.time,.slice p n c] 26)) 26 #[.string (str b.path),.string (str b.target),.int .u8 kb,.int .i64 b.mode,.int .i64 b.uid,.int .i64 b.gid,.int .i64 b.time,.slice q m d];rw [World.size_alloc] at this;rw [← hW2];exact this
 have c0:=hX.cell 0;have d0:=hY.cell 0;have c1:=hX.cell 1;have d1:=hY.cell 1;have c2:=hX.cell 2;have d2:=hY.cell 2;have c3:=hX.cell 3;have d3:=hY.cell 3;have c4:=hX.cell 4;have d4:=hY.cell 4;have c5:=hX.cell 5;have d5:=hY.cell 5;have c6:=hX.cell 6;have d6:=hY.cell 6;have c7:=hX.cell 7;have d7:=hY.cell 7;simp only [List.getElem?_toArray,List.getElem?_cons_zero,List.getElem?_cons_succ] at c0 d0 c1 d1 c2 d2 c3 d3 c4 d4 c5 d5 c6 d6 c7 d7;clear hX hY hB h1 h2
 cases x1 with
 | false =>
   go_enter Tryz.func16,Tryz.ntmps16
   go_upto_region 1 with fail
   clear hW2
   go_wp2
   go_ret
   exact ⟨rfl,HB.out⟩
 | true =>
   cases x2 with
   | false =>
     go_enter Tryz.func16,Tryz.ntmps16
     go_upto_region 1 with fail
     clear hW2
     go_wp2
     go_ret
     exact ⟨rfl,HB.out⟩
   | true =>
     cases x3 with
     | false =>
       go_enter Tryz.func16,Tryz.ntmps16
       go_upto_region 1 with fail
       clear hW2
       go_wp2
       go_ret
       exact ⟨rfl,HB.out⟩
     | true =>
       cases x4 with
       | false =>
         go_enter Tryz.func16,Tryz.ntmps16
         go_upto_region 1 with fail
         clear hW2
         go_wp2
         go_ret
         exact ⟨rfl,HB.out⟩
       | true =>
         have v1:(convert 24 9 (.slice p n c)).run Tryz.prog W2=.ok (.string (str a.body)) W2:=conv_at HA.out HL.out.1 _ _ _ Tryz.underlying24 Tryz.underlying5 Tryz.underlying9 _;have v2:(convert 24 9 (.slice q m d)).run Tryz.prog W2=.ok (.string (str b.body)) W2:=conv_at HBB.out HL.out.2 _ _ _ Tryz.underlying24 Tryz.underlying5 Tryz.underlying9 _
         have e5:((str a.body).toList == (str b.body).toList)=x5:=by
          rw [← HX5.out,str_toList,str_toList]
          by_cases h:a.body=b.body<;>simp [h]
         go_enter Tryz.func16,Tryz.ntmps16
         go_upto_region 1 with fail
         clear hW2
         go_wp2
         go_ret
         exact ⟨rfl,HB.out⟩
end Go.Proofs.YtnpkcneojilmkaaGreatDoor.Mem
end
