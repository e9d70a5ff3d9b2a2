/- Texts of this seat, merged: what the proof reaches. -/
import Derived.Test.YtfpoipamioaklaaStoreFullX4
import Derived.Test.YtfpoipamioaklaaStoreFullX7
import Derived.Deep.AppendLies
namespace Go.Proofs.Ytfpoipamioaklaa
namespace Base
end Base
namespace Bk
end Bk
namespace Byt
end Byt
end Go.Proofs.Ytfpoipamioaklaa
section
namespace Go.Proofs.Ytfpoipamioaklaa.Sto
open Go.ChangeShapes Go.WideShapes Go.ChangeAt Go.RowKit Base Byt Bk Go.Lib
set_option linter.unusedVariables false
set_option maxRecDepth 100000
def qB (v:Value) (b:Nat):Prop:=∃ p n c,v=.slice p n c∧0 < c ∧ ∃ z:Addr,p=some z∧z.block=b
def QR (w:World) (v:Value) (zs:List Int):Prop:=
 ∃ p n c,v=.slice p n c∧zs.length=n∧n≤c∧c≤maxLen∧(0 < c → ∃ g o cur,p=some ⟨g,o,none⟩∧Blk w g 3 cur∧o+c≤cur.size ∧ ∀ i,i < n → cur[o+i]? = some (.int .i64 (zs.getD i 0)))
theorem qr_nil (w:World):QR w (.slice none 0 0) []:=⟨none,0,0,rfl,rfl,Nat.le_refl _,by decide,fun h => by omega⟩
theorem QR.kept {w w':World} {v:Value} {zs:List Int} {S:Nat → Prop} (h:QR w v zs) (hk:Kept S w w') (hn:∀ b,qB v b → ¬ S b):QR w' v zs:=by
 obtain ⟨p,n,c,rfl,h1,h2,h3,h4⟩:=h;refine ⟨p,n,c,rfl,h1,h2,h3,fun h0 => ?_⟩
 obtain ⟨g,o,cur,rfl,hb,hs,hc⟩:=h4 h0;exact ⟨g,o,cur,rfl,hb.keptS hk (hn g ⟨_,n,c,rfl,h0,_,rfl,rfl⟩),hs,hc⟩
theorem QR.lt {w:World} {v:Value} {zs:List Int} (h:QR w v zs) {b:Nat} (hb:qB v b):b < w.heap.size:=by
 obtain ⟨p,n,c,rfl,h1,h2,h3,h4⟩:=h;obtain ⟨p2,n2,c2,he,h0,z,hz,rfl⟩:=hb
 cases he
 obtain ⟨g,o,cur,rfl,hb,hs,hc⟩:=h4 h0
 cases hz
 exact hb.lt
theorem QR.first {w:World} {p:Option Addr} {n c:Nat} {zs:List Int} (h:QR w (.slice p n c) zs) (h0:0 < n):∃ g o,p=some ⟨g,o,none⟩∧w.cell? ⟨g,o,none⟩=some (.int .i64 (zs.getD 0 0)):=by
 obtain ⟨p2,n2,c2,he,h1,h2,h3,h4⟩:=h
 cases he
 obtain ⟨g,o,cur,rfl,hb,hs,hc⟩:=h4 (by omega)
 refine ⟨g,o,rfl,?_⟩;rw [hb.cell];exact hc 0 h0
theorem QR.tail {w:World} {p:Option Addr} {n c:Nat} {zs:List Int} (h:QR w (.slice p n c) zs) (h0:0 < n):QR w (.slice (if c=1 then p else p.map (·.add 1)) (n - 1) (c - 1)) zs.tail ∧ ∀ b,qB (.slice (if c=1 then p else p.map (·.add 1)) (n - 1) (c - 1)) b → qB (.slice p n c) b:=by
 obtain ⟨p2,n2,c2,he,h1,h2,h3,h4⟩:=h
 cases he
 refine ⟨⟨_,_,_,rfl,by rw [List.length_tail,h1],by omega,by omega,fun hc => ?_⟩,fun b hb => ?_⟩
 ·obtain ⟨g,o,cur,rfl,hb,hs,hcv⟩:=h4 (by omega)
  rw [if_neg (by omega)]
  refine ⟨g,o+1,cur,by simp [WideShapes.add_plain],hb,by omega,fun i hi => ?_⟩
  rw [show o+1+i=o+(i+1) by omega,hcv (i+1) (by omega)]
  simp [List.getD]
 ·obtain ⟨p3,n3,c3,he,hc3,z,hz,rfl⟩:=hb
  cases he
  rw [if_neg (by omega)] at hz
  obtain ⟨g,o,cur,rfl,_⟩:=h4 (by omega)
  rw [Option.map_some,WideShapes.add_plain] at hz
  cases hz
  exact ⟨_,_,_,rfl,by omega,_,rfl,rfl⟩
theorem infoInt:(Try.prog.info? 3).map (fun i => (i.zero,i.size,i.bytes))=some (some (.int .i64 0),1,8):=by kernel_rfl
theorem run_append_at {w:World} {g o n c:Nat} {cur:Array Value} {b1 c1:Nat} {x:Int} (ty:TypeId) (hb:Blk w g 3 cur) (hfit:o+n < cur.size) (hroom:n+1≤c) (hx:w.cell? ⟨b1,0,none⟩=some (.int .i64 x)) :
 (Builtin.append_ #[22,22] ty #[.slice (some ⟨g,o,none⟩) n c,.slice (some ⟨b1,0,none⟩) 1 c1]).run Try.prog w=.ok (.slice (some ⟨g,o,none⟩) (n+1) c) (w.setCell ⟨g,o+n,none⟩ (.int .i64 x)):=by
 obtain ⟨i,hi,hz,hsize,hby⟩:=info_parts infoInt
 have hf:=run_firstCells_some (P:=Try.prog) w i.size 1 ⟨b1,0,none⟩ 1 c1 [.int .i64 x] (by rw [hsize];rfl) (by
  intro j v hj
  cases j with
  | zero => simp at hj;subst hj;exact hx
  | succ j => simp at hj)
 obtain ⟨u,hu⟩:∃ u,w.cell? ⟨g,o+n,none⟩=some u:=⟨cur[o+n],by rw [hb.cell,Array.getElem?_eq_getElem hfit]⟩
 have fr:=hb.frozen (o+n);rw [hsize] at hf;simp [Builtin.append_,run_underlying Try.underlying22,sizeOf,typeInfo,hi,hsize,Builtin.lenOf,hroom,hf,WideShapes.add_plain,storeCells]
 go_simp
theorem run_append_q {w:World} {p:Option Addr} {n c:Nat} {zs:List Int} (ty:TypeId) (hq:QR w (.slice p n c) zs) {b1 c1:Nat} {x:Int} (hx:w.cell? ⟨b1,0,none⟩=some (.int .i64 x)) (hn:n≤100000) :
 ∃ p' c' w',(Builtin.append_ #[22,22] ty #[.slice p n c,.slice (some ⟨b1,0,none⟩) 1 c1]).run Try.prog w=.ok (.slice p' (n+1) c') w'∧QR w' (.slice p' (n+1) c') (zs++[x])∧Kept (qB (.slice p n c)) w w'∧(∀ b,qB (.slice p' (n+1) c') b → qB (.slice p n c) b ∨ w.heap.size≤b):=by
 obtain ⟨i,hi,hz,hsize,hby⟩:=info_parts infoInt
 have hnews:∀ j v,[Value.int .i64 x][j]? = some v → w.cell? ((⟨b1,0,none⟩:Addr).add j)=some v:=by
  intro j v hj
  cases j with
  | zero => simp at hj;subst hj;exact hx
  | succ j => simp at hj
 obtain ⟨p2,n2,c2,he,h1,h2,h3,h4⟩:=hq
 cases he
 by_cases hroom:n+1≤c
 ·obtain ⟨g,o,cur,rfl,hb,hs,hc⟩:=h4 (by omega)
  have hlt:o+n < cur.size:=by omega
  refine ⟨some ⟨g,o,none⟩,c,_,run_append_at ty hb hlt hroom hx,⟨_,_,_,rfl,by rw [List.length_append,h1];rfl,hroom,h3,fun _ => ⟨g,o,_,rfl,hb.set (o+n) _ hlt,by rw [Array.size_set];exact hs,fun j hj => ?_⟩⟩,(Kept.refl _ w).setCell (a:=⟨g,o+n,none⟩) (.inr ⟨_,n,c,rfl,by omega,_,rfl,rfl⟩) _,fun b hb2 => .inl ?_⟩
  ·rw [Array.getElem?_set]
   by_cases e:o+n=o+j
   ·rw [if_pos e]
    obtain rfl:j=n:=by omega
    rw [List.getD,List.getElem?_append_right (by omega),h1,Nat.sub_self]
    rfl
   ·rw [if_neg e,hc j (by omega),List.getD,List.getD,List.getElem?_append_left (by omega)]
  ·obtain ⟨p3,n3,c3,he,h0,z,hz3,rfl⟩:=hb2
   cases he
   exact ⟨_,n,c,rfl,h0,z,hz3,rfl⟩
 ·obtain rfl:n=c:=by omega
  have key:∃ p' c' w',(Builtin.append_ #[22,22] ty #[.slice p n n,.slice (some ⟨b1,0,none⟩) 1 c1]).run Try.prog w=.ok (.slice p' (n+1) c') w'∧w'.ownsRow w.heap.size 3 1 (.slice p' (n+1) c') (n+1) ((zs++[x]).map (Value.int .i64))∧Kept noneB w w':=by
   rcases p with _ | ad
   ·have h0:n=0:=by
     rcases Nat.eq_zero_or_pos n with h0 | h0
     ·exact h0
     ·obtain ⟨_,_,_,he,_⟩:=h4 h0
      cases he
    subst h0;obtain rfl:=List.eq_nil_of_length_eq_zero h1;obtain ⟨v',w',hr,g1,g2,_⟩:=run_append_own (P:=Try.prog) w w.heap.size 22 ty 3 i _ 1 8 Try.underlying22 hi hz hsize hby rfl (by decide) (.slice none 0 0) 0 [] (World.ownsRow_nil _ _ _ _) ⟨b1,0,none⟩ 1 c1 [.int .i64 x] rfl hnews (by simp [Value.oneCell']) (by decide) (by decide) (Nat.le_refl _)
    obtain ⟨g,cap,rfl,_,_⟩:=g1.form (by omega)
    exact ⟨_,_,w',hr,g1,(Kept.refl noneB w).grown g2 (by intro k hk;cases hk)⟩
   ·have holds:∀ j v,(zs.map (Value.int .i64))[j]? = some v → w.cell? (ad.add j)=some v:=fun j v hj => by
     have hj2:j < n:=by
      have:=(List.getElem?_eq_some_iff.1 hj).1;rw [List.length_map,h1] at this;exact this
     obtain ⟨g,o,cur,he,hb,hs,hc⟩:=h4 (by omega)
     cases he
     rw [WideShapes.add_plain,hb.cell,hc j hj2,← hj];simp [List.getD,show j < zs.length by omega]
    have hr:=run_append_grow (P:=Try.prog) w 22 ty 3 i _ Try.underlying22 hi hz ad n n (zs.map (Value.int .i64)) (by rw [List.length_map,hsize,h1];omega) holds ⟨b1,0,none⟩ 1 c1 [.int .i64 x] (by rw [hsize];rfl) hnews (by omega) (by omega) (growslice_fits (by omega) (by rw [hby];omega))
    refine ⟨_,_,_,hr,⟨by rw [List.length_map,List.length_append,h1];simp,.inr ⟨_,_,_,rfl,Nat.le_refl _,World.alloc_heap_new _ _,grownCap_ge _ _ _ _,grownCap_le_maxLen _ _ _ _ (by unfold maxLen;omega),?_,?_⟩⟩,((Kept.refl noneB w).drew.alloc _)⟩
    ·have hc1:(Value.int IntKind.i64 0).cells.size=1:=rfl
     have:=grownCap_ge w (n+1) n 3;simp [size_zeroCells,h1,hc1];omega
    ·simp only [Array.toList_append,List.map_append]
     have e5:(n+1) * 1=(zs.map (Value.int .i64)++[Value.int .i64 x]).length:=by simp [h1]
     rw [e5];exact List.take_left
  obtain ⟨p',c',w',hr,g1,g2⟩:=key;refine ⟨p',c',w',hr,?_,⟨g2.os,g2.tape,g2.output,g2.size,fun k hk _ => g2.block k hk (fun h => h.elim)⟩,fun b hb => .inr ?_⟩
  ·rcases g1.2 with ⟨e0,e1⟩ | ⟨g,cap,cur,e0,hbg,hg,hnc,hcm,hcs,htake⟩
   ·cases e0
   ·cases e0
    refine ⟨_,_,_,rfl,by rw [List.length_append,h1];rfl,hnc,hcm,fun _ => ⟨g,0,cur,rfl,hg,by omega,fun j hj => ?_⟩⟩
    have e2:(cur.toList.take ((n+1) * 1))[j]? = ((zs++[x]).map (Value.int .i64))[j]?:=by
     rw [htake]
    rw [List.getElem?_take,if_pos (by omega),Array.getElem?_toList] at e2
    rw [Nat.zero_add,e2];have hj3:j < (zs++[x]).length:=by rw [List.length_append,h1];exact hj
    rw [List.getElem?_map,List.getElem?_eq_getElem hj3,List.getD,List.getElem?_eq_getElem hj3];rfl
  ·obtain ⟨p3,n3,c3,he,h0,z,hz3,rfl⟩:=hb
   cases he
   subst hz3;exact (g1.lt z.block rfl).1
end Go.Proofs.Ytfpoipamioaklaa.Sto
end
