/- Texts of this seat, merged: what the proof reaches. -/
import Derived.Test.YtnpkcneojilmkaaGreatDoorWriteManyX29
import Derived.Test.YtnpkcneojilmkaaGreatDoorWriteManyX24
import Derived.Laws.EntriesVeiled
section
namespace Go.Proofs.YtnpkcneojilmkaaGreatDoor.Wr
open Go.ChangeShapes Go.WideShapes Go.ChangeAt Go.RowKit Base Byt Txt Bk Hp Head Rec Attr Mem Go.Lib
set_option linter.unusedVariables false
set_option maxRecDepth 100000
theorem wcutV_is (l:List UInt8):∃ a b,Head.cutV l=.tuple #[.string a,.string b,.bool (cutR l).isSome]:=by
 unfold Head.cutV
 cases cutR l with
 | none => exact ⟨_,_,rfl⟩
 | some x => exact ⟨_,_,rfl⟩
def HC (a b:List UInt8) (k:UInt8) (md ui gi ti bl:Int):Array Value:=#[.string (str a),.string (str b),.int .u8 (k.toNat:Int),.int .i64 md,.int .i64 ui,.int .i64 gi,.int .i64 ti,.int .i64 bl,.bool false]
theorem blk9 {w:World} {g:Nat} {cs:Array Value} (h:Blk w g 41 cs) (hs:cs.size=9) (v0 v1 v2 v3 v4 v5 v6 v7 v8:Value) :
 Blk (((((((((w.setCell ⟨g,0,none⟩ v0).setCell ⟨g,1,none⟩ v1).setCell ⟨g,2,none⟩ v2).setCell ⟨g,3,none⟩ v3).setCell ⟨g,4,none⟩ v4).setCell ⟨g,5,none⟩ v5).setCell ⟨g,6,none⟩ v6).setCell ⟨g,7,none⟩ v7).setCell ⟨g,8,none⟩ v8) g 41 #[v0,v1,v2,v3,v4,v5,v6,v7,v8]:=by
 obtain ⟨a0,a1,a2,a3,a4,a5,a6,a7,a8,rfl⟩:∃ a0 a1 a2 a3 a4 a5 a6 a7 a8,cs=#[a0,a1,a2,a3,a4,a5,a6,a7,a8]:=by
  obtain ⟨l⟩:=cs
  match l,hs with
  | [a0,a1,a2,a3,a4,a5,a6,a7,a8],_ => exact ⟨_,_,_,_,_,_,_,_,_,rfl⟩
 exact ((((((((h.set 0 v0 (by show 0 < 9;decide)).set 1 v1 (by show 1 < 9;decide)).set 2 v2 (by show 2 < 9;decide)).set 3 v3 (by show 3 < 9;decide)).set 4 v4 (by show 4 < 9;decide)).set 5 v5 (by show 5 < 9;decide)).set 6 v6 (by show 6 < 9;decide)).set 7 v7 (by show 7 < 9;decide)).set 8 v8 (by show 8 < 9;decide)
theorem kept9 {w:World} (g:Nat) (v0 v1 v2 v3 v4 v5 v6 v7 v8:Value) :
 Kept (oneB g) w (((((((((w.setCell ⟨g,0,none⟩ v0).setCell ⟨g,1,none⟩ v1).setCell ⟨g,2,none⟩ v2).setCell ⟨g,3,none⟩ v3).setCell ⟨g,4,none⟩ v4).setCell ⟨g,5,none⟩ v5).setCell ⟨g,6,none⟩ v6).setCell ⟨g,7,none⟩ v7).setCell ⟨g,8,none⟩ v8):=
 (((((((((Kept.refl (oneB g) w).setCell (a:=⟨g,0,none⟩) (.inr rfl) v0).setCell (a:=⟨g,1,none⟩) (.inr rfl) v1).setCell (a:=⟨g,2,none⟩) (.inr rfl) v2).setCell (a:=⟨g,3,none⟩) (.inr rfl) v3).setCell (a:=⟨g,4,none⟩) (.inr rfl) v4).setCell (a:=⟨g,5,none⟩) (.inr rfl) v5).setCell (a:=⟨g,6,none⟩) (.inr rfl) v6).setCell (a:=⟨g,7,none⟩) (.inr rfl) v7).setCell (a:=⟨g,8,none⟩) (.inr rfl) v8
theorem ret_split {fn:Func} (hf:fn.results=#[.cell 2 41,.tmp 3]) (tmps:Array Value) (w:World) (g:Nat) (v:Value) (ht:tmps.getD 2 undef=.pointer (some ⟨g,0,none⟩)) (hv:tmps.getD 3 undef=v)
 (h:HeadV) (hb:Blk w g 41 (headC h)):(results fn tmps).run Tryz.prog w=.ok (.tuple #[.agg (headC h),v]) w:=by
 have hl:=load_head w g (str h.name) (str h.link) _ _ _ _ _ _ _ hb;have ht':tmps[2]?.getD undef=.pointer (some ⟨g,0,none⟩):=by simpa using ht
 have hv':tmps[3]?.getD undef=v:=by simpa using hv
 simp only [results,hf];simp [Result.andThen,ht',hv',asAddr,hl,headC]
def SplitPost (w:World) (m:MemV) (e:Ending) (w':World):Prop:=
 ∃ q d,e=.returned (.tuple #[.agg (headC (headM m)),.slice q (recsM m).length d])∧(recsM m).length≤d∧d≤maxLen∧RecsAt w' q (recsM m).length (recsM m)∧Below w.heap.size w w'
theorem SP.done {w wx wy:World} {M H:Array Value} {m:MemV} (h:SP w M H (recsM m) wx) (hk:Kept (oneB (w.heap.size+1)) wx wy) {q:Option Addr} {n d:Nat} (hl:Blk wx (w.heap.size+3) 106 #[.slice q n d]) :
 (recsM m).length=n∧(recsM m).length≤d∧d≤maxLen∧RecsAt wy q (recsM m).length (recsM m)∧Below w.heap.size w wy:=by
 obtain ⟨v,h1,h2⟩:=h.ls
 have e:v=.slice q n d:=by
  have c1:=h1.cell 0;rw [hl.cell 0] at c1
  simpa using c1.symm
 have h3:=ownsRow_kept h2 hk (fun k hk' e => by
  have:=(h2.lt k hk').1;have:k=w.heap.size+1:=e
  omega)
 obtain ⟨p',c',e2,h4,h5,h6⟩:=recs_own h3;rw [e] at e2
 cases e2
 exact ⟨rfl,h4,h5,h6,h.bel.trans (hk.below h.bel.size (fun k hk => by have:k=w.heap.size+1:=hk;omega))⟩
theorem recsM_app (m:MemV):recsM m=((((([]:RecL)++(if longP m then [(keyT 4,m.path)] else []))++(if longL m then [(keyT 5,m.target)] else []))++(if 2097151 < m.uid then [(keyT 0,decL m.uid.toNat)] else [])) ++
 (if 2097151 < m.gid then [(keyT 1,decL m.gid.toNat)] else []))++(if 8589934591 < m.time then [(keyT 2,decL m.time.toNat)] else []):=by
 rw [List.nil_append];rfl
set_option maxHeartbeats 4000000 in
theorem split_any (m:MemV) (p:Option Addr) (c:Nat) (w:World) (hg:GoodM m) (hN:Need w) :
 Calls Tryz.prog 58 #[.agg (memC m p c)] w (SplitPost w m):=by
 have hpl:=hg.pathL;have htl:=hg.targL;obtain ⟨bl,hbl⟩:∃ bl,m.body.length=bl:=⟨_,rfl⟩;obtain ⟨u,hu⟩:∃ u:Nat,m.uid=(u:Int):=⟨m.uid.toNat,by have:=hg.uid;omega⟩
 obtain ⟨g,hgg⟩:∃ g:Nat,m.gid=(g:Int):=⟨m.gid.toNat,by have:=hg.gid;omega⟩
 obtain ⟨t,ht⟩:∃ t:Nat,m.time=(t:Int):=⟨m.time.toNat,by have:=hg.time;omega⟩
 have hun:u≤9223372036854775807:=by have:=hg.uid;omega
 have hgn:g≤9223372036854775807:=by have:=hg.gid;omega
 have htn:t≤9223372036854775807:=by have:=hg.time;omega
 obtain ⟨b0,hb0⟩:∃ b,(cutR m.path).isSome=b:=⟨_,rfl⟩;obtain ⟨lp,hlp⟩:∃ b,longP m=b:=⟨_,rfl⟩;obtain ⟨ll,hll⟩:∃ b,longL m=b:=⟨_,rfl⟩;obtain ⟨f1,hf1⟩:∃ f1,decide (m.target.length≤100)=f1:=⟨_,rfl⟩
 have HLP:Hid ((!b0 || !fitsD m.path)=lp):=Lib.hid (by
  rw [← hlp,← hb0];unfold longP
  cases cutR m.path<;>rfl)
 have HLL:Hid ((!f1 || !fitsD m.target)=ll):=Lib.hid (by
  rw [← hll,← hf1];unfold longL
  congr 1
  by_cases h:m.target.length≤100
  ·simp [h]
  ·simp [h];omega)
 have hd1:decide (((str m.target).size:Int)≤100)=f1:=by
  rw [← hf1,str_size]
  by_cases h:m.target.length≤100
  ·rw [decide_eq_true h,decide_eq_true (by omega)]
  ·rw [decide_eq_false h,decide_eq_false (by omega)]
 obtain ⟨rs1,hr1⟩:∃ rs1:RecL,(if lp=true then []++[(keyT 4,m.path)] else [])=rs1:=⟨_,rfl⟩
 obtain ⟨rs2,hr2⟩:∃ rs2:RecL,(if ll=true then rs1++[(keyT 5,m.target)] else rs1)=rs2:=⟨_,rfl⟩
 obtain ⟨rs3,hr3⟩:∃ rs3:RecL,(if 2097151 < u then rs2++[(keyT 0,decL u)] else rs2)=rs3:=⟨_,rfl⟩
 obtain ⟨rs4,hr4⟩:∃ rs4:RecL,(if 2097151 < g then rs3++[(keyT 1,decL g)] else rs3)=rs4:=⟨_,rfl⟩
 obtain ⟨rs5,hr5⟩:∃ rs5:RecL,(if 8589934591 < t then rs4++[(keyT 2,decL t)] else rs4)=rs5:=⟨_,rfl⟩
 have l1:rs1.length≤1:=by rw [← hr1];split<;>simp
 have l2:rs2.length≤2:=by rw [← hr2];split;(rw [List.length_append];simp only [List.length_cons,List.length_nil];omega);omega
 have l3:rs3.length≤3:=by rw [← hr3];split;(rw [List.length_append];simp only [List.length_cons,List.length_nil];omega);omega
 have l4:rs4.length≤4:=by rw [← hr4];split;(rw [List.length_append];simp only [List.length_cons,List.length_nil];omega);omega
 have HR5:Hid (recsM m=rs5):=Lib.hid (by
  have e:∀ (c:Prop) [Decidable c] (a:RecL) (r:List UInt8 × List UInt8),a++(if c then [r] else [])=if c then a++[r] else a:=fun c _ a r => by split<;>simp
  have c1:((2097151:Int) < (u:Int)) ↔ 2097151 < u:=by omega
  have c2:((2097151:Int) < (g:Int)) ↔ 2097151 < g:=by omega
  have c3:((8589934591:Int) < (t:Int)) ↔ 8589934591 < t:=by omega
  rw [recsM_app,e,e,e,e,e,hlp,hll,hu,hgg,ht,← hr5,← hr4,← hr3,← hr2,← hr1]
  simp only [Int.toNat_natCast,c1,c2,c3])
 have HH5:Hid (headC (headM m)=HC (if lp=true then longN else m.path) (if ll=true then longN else m.target) m.kind m.mode (if 2097151 < u then 0 else (u:Int)) (if 2097151 < g then 0 else (g:Int)) (if 8589934591 < t then 0 else (t:Int)) (bl:Int)):=Lib.hid (by
  unfold headM HC headC;rw [hlp,hll,hu,hgg,ht,hbl];have c1:((2097151:Int) < (u:Int)) ↔ 2097151 < u:=by omega
  have c2:((2097151:Int) < (g:Int)) ↔ 2097151 < g:=by omega
  have c3:((8589934591:Int) < (t:Int)) ↔ 8589934591 < t:=by omega
  simp only [c1,c2,c3])
 unfold memC;rw [hbl,hu,hgg,ht]
 obtain ⟨W1,hW1⟩:∃ W1,((((w.alloc (.cells #[.string (str m.path),.string (str m.target),.int .u8 (m.kind.toNat:Int),.int .i64 m.mode,.int .i64 (u:Int),.int .i64 (g:Int),.int .i64 (t:Int),.slice p bl c] 26)).alloc
  (.cells #[.string ⟨#[]⟩,.string ⟨#[]⟩,.int .u8 0,.int .i64 0,.int .i64 0,.int .i64 0,.int .i64 0,.int .i64 0,.bool false] 41)).alloc
  (.cells #[.string (str m.path),.string (str m.target),.int .u8 (m.kind.toNat:Int),.int .i64 m.mode,.int .i64 (u:Int),.int .i64 (g:Int),.int .i64 (t:Int),.int .i64 (bl:Int),.bool false] 41)).alloc
  (.cells #[.slice none 0 0] 106)).alloc (.cells #[.func (.func 85) #[] #[.pointer (some ⟨w.heap.size+3,0,none⟩)]] 140)=W1:=⟨_,rfl⟩
 have hS0:SP w #[.string (str m.path),.string (str m.target),.int .u8 (m.kind.toNat:Int),.int .i64 m.mode,.int .i64 (u:Int),.int .i64 (g:Int),.int .i64 (t:Int),.slice p bl c] (HC m.path m.target m.kind m.mode (u:Int) (g:Int) (t:Int) (bl:Int)) [] W1:=by
  rw [← hW1];have n1:=fun (w:World) (o:Obj) => World.size_alloc w o
  have b1:=Blk.new (w.alloc (.cells #[.string (str m.path),.string (str m.target),.int .u8 (m.kind.toNat:Int),.int .i64 m.mode,.int .i64 (u:Int),.int .i64 (g:Int),.int .i64 (t:Int),.slice p bl c] 26)) 41 #[.string ⟨#[]⟩,.string ⟨#[]⟩,.int .u8 0,.int .i64 0,.int .i64 0,.int .i64 0,.int .i64 0,.int .i64 0,.bool false];rw [n1] at b1;obtain ⟨V1,hV1⟩:∃ V1,(w.alloc (.cells #[.string (str m.path),.string (str m.target),.int .u8 (m.kind.toNat:Int),.int .i64 m.mode,.int .i64 (u:Int),.int .i64 (g:Int),.int .i64 (t:Int),.slice p bl c] 26)).alloc (.cells #[.string ⟨#[]⟩,.string ⟨#[]⟩,.int .u8 0,.int .i64 0,.int .i64 0,.int .i64 0,.int .i64 0,.int .i64 0,.bool false] 41)=V1:=⟨_,rfl⟩
  have z1:V1.heap.size=w.heap.size+2:=by rw [← hV1,n1,n1]
  have m1:Blk V1 w.heap.size 26 #[.string (str m.path),.string (str m.target),.int .u8 (m.kind.toNat:Int),.int .i64 m.mode,.int .i64 (u:Int),.int .i64 (g:Int),.int .i64 (t:Int),.slice p bl c]:=by rw [← hV1];exact (Blk.new w _ _).alloc _
  have B1:Below w.heap.size w V1:=by rw [← hV1];exact ((Below.refl _ w).alloc (Nat.le_refl _) _).alloc (by simp) _
  rw [hV1] at b1 ⊢;have b2:=Blk.new V1 41 (HC m.path m.target m.kind m.mode (u:Int) (g:Int) (t:Int) (bl:Int));rw [z1] at b2;have b3:=Blk.new (V1.alloc (.cells (HC m.path m.target m.kind m.mode (u:Int) (g:Int) (t:Int) (bl:Int)) 41)) 106 #[.slice none 0 0];rw [n1,z1] at b3;have b4:=Blk.new ((V1.alloc (.cells (HC m.path m.target m.kind m.mode (u:Int) (g:Int) (t:Int) (bl:Int)) 41)).alloc (.cells #[.slice none 0 0] 106)) 140 #[.func (.func 85) #[] #[.pointer (some ⟨w.heap.size+3,0,none⟩)]];rw [n1,n1,z1] at b4;exact ⟨((B1.alloc B1.size _).alloc (B1.alloc B1.size _).size _).alloc ((B1.alloc B1.size _).alloc (B1.alloc B1.size _).size _).size _,((m1.alloc _).alloc _).alloc _,((b1.alloc _).alloc _).alloc _,(b2.alloc _).alloc _,⟨_,b3.alloc _,World.ownsRow_nil _ _ _ _⟩,b4⟩
 have HW1:=Lib.hid hW1;have HS0:=Lib.hid hS0;have HN:=Lib.hid hN;have HTN:=Lib.hid (And.intro hpl htl);have HUN:=Lib.hid (And.intro hun (And.intro hgn htn));have HLN:=Lib.hid (And.intro l1 (And.intro l2 (And.intro l3 l4)));obtain ⟨cx,cy,hcv⟩:=wcutV_is m.path;rw [hb0] at hcv;have HCV:=Lib.hid hcv;have HR1:=Lib.hid hr1;have HR2:=Lib.hid hr2;have HR3:=Lib.hid hr3;have HR4:=Lib.hid hr4;have HR5b:=Lib.hid hr5;have hmf:∀ (fn:Fn) (first cap:Array Value) (w:World),(Instr.makeFunc fn first cap).run Tryz.prog w=.ok (.func fn first cap) w:=fun _ _ _ _ => rfl
 clear hS0 hN hg hbl hW1 hpl htl hcv hu hgg ht hun hgn htn hb0 hlp hll hf1 hr1 hr2 hr3 hr4 hr5 l1 l2 l3 l4
 go_enter Tryz.func58,Tryz.ntmps58
 have E1:Hid ((if lp=true then (HC m.path m.target m.kind m.mode (u:Int) (g:Int) (t:Int) (bl:Int)).setIfInBounds 0 (.string (str longN)) else (HC m.path m.target m.kind m.mode (u:Int) (g:Int) (t:Int) (bl:Int)))=(HC (if lp=true then longN else m.path) m.target m.kind m.mode (u:Int) (g:Int) (t:Int) (bl:Int))):=Lib.hid (by split<;>simp [HC])
 have E2:Hid ((if ll=true then (HC (if lp=true then longN else m.path) m.target m.kind m.mode (u:Int) (g:Int) (t:Int) (bl:Int)).setIfInBounds 1 (.string (str longN)) else (HC (if lp=true then longN else m.path) m.target m.kind m.mode (u:Int) (g:Int) (t:Int) (bl:Int)))=(HC (if lp=true then longN else m.path) (if ll=true then longN else m.target) m.kind m.mode (u:Int) (g:Int) (t:Int) (bl:Int))):=Lib.hid (by split<;>simp [HC])
 have E3:Hid ((if 2097151 < u then (HC (if lp=true then longN else m.path) (if ll=true then longN else m.target) m.kind m.mode (u:Int) (g:Int) (t:Int) (bl:Int)).setIfInBounds 4 (.int .i64 0) else (HC (if lp=true then longN else m.path) (if ll=true then longN else m.target) m.kind m.mode (u:Int) (g:Int) (t:Int) (bl:Int)))=(HC (if lp=true then longN else m.path) (if ll=true then longN else m.target) m.kind m.mode (if 2097151 < u then 0 else (u:Int)) (g:Int) (t:Int) (bl:Int))):=Lib.hid (by split<;>simp [HC])
 have E4:Hid ((if 2097151 < g then (HC (if lp=true then longN else m.path) (if ll=true then longN else m.target) m.kind m.mode (if 2097151 < u then 0 else (u:Int)) (g:Int) (t:Int) (bl:Int)).setIfInBounds 5 (.int .i64 0) else (HC (if lp=true then longN else m.path) (if ll=true then longN else m.target) m.kind m.mode (if 2097151 < u then 0 else (u:Int)) (g:Int) (t:Int) (bl:Int)))=(HC (if lp=true then longN else m.path) (if ll=true then longN else m.target) m.kind m.mode (if 2097151 < u then 0 else (u:Int)) (if 2097151 < g then 0 else (g:Int)) (t:Int) (bl:Int))):=Lib.hid (by split<;>simp [HC])
 have E5:Hid ((if 8589934591 < t then (HC (if lp=true then longN else m.path) (if ll=true then longN else m.target) m.kind m.mode (if 2097151 < u then 0 else (u:Int)) (if 2097151 < g then 0 else (g:Int)) (t:Int) (bl:Int)).setIfInBounds 6 (.int .i64 0) else (HC (if lp=true then longN else m.path) (if ll=true then longN else m.target) m.kind m.mode (if 2097151 < u then 0 else (u:Int)) (if 2097151 < g then 0 else (g:Int)) (t:Int) (bl:Int)))=(HC (if lp=true then longN else m.path) (if ll=true then longN else m.target) m.kind m.mode (if 2097151 < u then 0 else (u:Int)) (if 2097151 < g then 0 else (g:Int)) (if 8589934591 < t then 0 else (t:Int)) (bl:Int))):=Lib.hid (by split<;>simp [HC])
 go_upto_region 6 with fail
 rw [HW1.out];have y0:=HS0.out.mem.cell 0;simp only [List.getElem?_toArray,List.getElem?_cons_zero] at y0
 go_wp2_with fail
 refine (hcut_any (str m.path) W1 (by rw [str_size];have:=HTN.out.1;omega)).mono ?_
 rw [str_data,HCV.out];rintro e w2 ⟨rfl,hk2⟩;have HS1:=Lib.hid (HS0.out.kept hk2);have HN2:=Lib.hid (HN.out.below HS1.out.bel);clear hk2 y0
 go_wp2_with fail
 refine (addText_any w w2 #[.string (str m.path),.string (str m.target),.int .u8 (m.kind.toNat:Int),.int .i64 m.mode,.int .i64 (u:Int),.int .i64 (g:Int),.int .i64 (t:Int),.slice p bl c] (HC m.path m.target m.kind m.mode (u:Int) (g:Int) (t:Int) (bl:Int)) (HC (if lp=true then longN else m.path) m.target m.kind m.mode (u:Int) (g:Int) (t:Int) (bl:Int)) [] rs1 0 (keyT 4) m.path b0 lp HS1.out (by show 0 < 9;decide) rfl HLP.out E1.out HR1.out (by have:=HTN.out.1;omega) (by simp)).mono ?_
 rintro e w3 ⟨rfl,hs⟩;have HS2:=Lib.hid hs;clear hs;have y1:=HS2.out.mem.cell 1;simp only [List.getElem?_toArray,List.getElem?_cons_zero,List.getElem?_cons_succ] at y1
 go_wp2_with fail
 refine (addText_any w w3 #[.string (str m.path),.string (str m.target),.int .u8 (m.kind.toNat:Int),.int .i64 m.mode,.int .i64 (u:Int),.int .i64 (g:Int),.int .i64 (t:Int),.slice p bl c] (HC (if lp=true then longN else m.path) m.target m.kind m.mode (u:Int) (g:Int) (t:Int) (bl:Int)) (HC (if lp=true then longN else m.path) (if ll=true then longN else m.target) m.kind m.mode (u:Int) (g:Int) (t:Int) (bl:Int)) rs1 rs2 1 (keyT 5) m.target f1 ll HS2.out (by show 1 < 9;decide) rfl HLL.out E2.out HR2.out (by have:=HTN.out.2;omega) (by have:=HLN.out.1;omega)).mono ?_
 rintro e w4 ⟨rfl,hs⟩;have HS3:=Lib.hid hs;clear hs y1 hd1;have HN4:=Lib.hid (HN.out.below HS3.out.bel)
 go_wp2_with fail
 refine (addNumber_any w w4 #[.string (str m.path),.string (str m.target),.int .u8 (m.kind.toNat:Int),.int .i64 m.mode,.int .i64 (u:Int),.int .i64 (g:Int),.int .i64 (t:Int),.slice p bl c] (HC (if lp=true then longN else m.path) (if ll=true then longN else m.target) m.kind m.mode (u:Int) (g:Int) (t:Int) (bl:Int)) (HC (if lp=true then longN else m.path) (if ll=true then longN else m.target) m.kind m.mode (if 2097151 < u then 0 else (u:Int)) (g:Int) (t:Int) (bl:Int)) rs2 rs3 4 (keyT 0) u 2097151 HS3.out (by show 4 < 9;decide) rfl E3.out HR3.out HUN.out.1 (by have:=HLN.out.2.1;omega) HN4.out).mono ?_
 rintro e w5 ⟨rfl,hs⟩;have HS4:=Lib.hid hs;clear hs;have HN5:=Lib.hid (HN.out.below HS4.out.bel)
 go_wp2_with fail
 refine (addNumber_any w w5 #[.string (str m.path),.string (str m.target),.int .u8 (m.kind.toNat:Int),.int .i64 m.mode,.int .i64 (u:Int),.int .i64 (g:Int),.int .i64 (t:Int),.slice p bl c] (HC (if lp=true then longN else m.path) (if ll=true then longN else m.target) m.kind m.mode (if 2097151 < u then 0 else (u:Int)) (g:Int) (t:Int) (bl:Int)) (HC (if lp=true then longN else m.path) (if ll=true then longN else m.target) m.kind m.mode (if 2097151 < u then 0 else (u:Int)) (if 2097151 < g then 0 else (g:Int)) (t:Int) (bl:Int)) rs3 rs4 5 (keyT 1) g 2097151 HS4.out (by show 5 < 9;decide) rfl E4.out HR4.out HUN.out.2.1 (by have:=HLN.out.2.2.1;omega) HN5.out).mono ?_
 rintro e w6 ⟨rfl,hs⟩;have HS5:=Lib.hid hs;clear hs;have HN6:=Lib.hid (HN.out.below HS5.out.bel)
 go_wp2_with fail
 refine (addNumber_any w w6 #[.string (str m.path),.string (str m.target),.int .u8 (m.kind.toNat:Int),.int .i64 m.mode,.int .i64 (u:Int),.int .i64 (g:Int),.int .i64 (t:Int),.slice p bl c] (HC (if lp=true then longN else m.path) (if ll=true then longN else m.target) m.kind m.mode (if 2097151 < u then 0 else (u:Int)) (if 2097151 < g then 0 else (g:Int)) (t:Int) (bl:Int)) (HC (if lp=true then longN else m.path) (if ll=true then longN else m.target) m.kind m.mode (if 2097151 < u then 0 else (u:Int)) (if 2097151 < g then 0 else (g:Int)) (if 8589934591 < t then 0 else (t:Int)) (bl:Int)) rs4 rs5 6 (keyT 2) t 8589934591 HS5.out (by show 6 < 9;decide) rfl E5.out HR5b.out HUN.out.2.2 (by have:=HLN.out.2.2.2;omega) HN6.out).mono ?_
 rintro e w7 ⟨rfl,hs⟩;have hH:=HH5.out;obtain ⟨A0,hA0⟩:∃ x,(if lp=true then longN else m.path)=x:=⟨_,rfl⟩
 obtain ⟨A1,hA1⟩:∃ x,(if ll=true then longN else m.target)=x:=⟨_,rfl⟩
 obtain ⟨A4,hA4⟩:∃ x:Int,(if 2097151 < u then 0 else (u:Int))=x:=⟨_,rfl⟩
 obtain ⟨A5,hA5⟩:∃ x:Int,(if 2097151 < g then 0 else (g:Int))=x:=⟨_,rfl⟩
 obtain ⟨A6,hA6⟩:∃ x:Int,(if 8589934591 < t then 0 else (t:Int))=x:=⟨_,rfl⟩
 rw [hA0,hA1,hA4,hA5,hA6] at hs hH;rw [← HR5.out] at hs;have HS6:=Lib.hid hs;have HHF:=Lib.hid hH;obtain ⟨v,hl,hrow⟩:=hs.ls;obtain ⟨q,d,rfl,_,_,_⟩:=recs_own hrow;obtain ⟨n,hn⟩:∃ n,(recsM m).length=n:=⟨_,rfl⟩;rw [hn] at hl;have q0:=hl.cell 0;simp only [List.getElem?_toArray,List.getElem?_cons_zero] at q0;have HL:=Lib.hid hl;have b9:=hs.hd;have z0:=b9.cell 0;have z1:=b9.cell 1;have z2:=b9.cell 2;have z3:=b9.cell 3;have z4:=b9.cell 4;have z5:=b9.cell 5;have z6:=b9.cell 6;have z7:=b9.cell 7;have z8:=b9.cell 8;simp only [HC,List.getElem?_toArray,List.getElem?_cons_zero,List.getElem?_cons_succ] at z0 z1 z2 z3 z4 z5 z6 z7 z8
 have b2:=hs.res;have r0:=b2.cell 0;have r1:=b2.cell 1;have r2:=b2.cell 2;have r3:=b2.cell 3;have r4:=b2.cell 4;have r5:=b2.cell 5;have r6:=b2.cell 6;have r7:=b2.cell 7;have r8:=b2.cell 8;have f0:=b2.frozen 0;have f1':=b2.frozen 1;have f2:=b2.frozen 2;have f3:=b2.frozen 3;have f4:=b2.frozen 4;have f5:=b2.frozen 5;have f6:=b2.frozen 6;have f7:=b2.frozen 7;have f8:=b2.frozen 8;simp only [headC,zeroH,List.getElem?_toArray,List.getElem?_cons_zero,List.getElem?_cons_succ] at r0 r1 r2 r3 r4 r5 r6 r7 r8;clear hs hl hrow b9 b2 hA0 hA1 hA4 hA5 hA6 hH hn
 go_upto_region 12 with fail
 go_region
 all_goals
  clear r0 r1 r2 r3 r4 r5 r6 r7 r8 f0 f1' f2 f3 f4 f5 f6 f7 f8 z0 z1 z2 z3 z4 z5 z6 z7 z8 q0
  go_wp2
  have HB9:=Lib.hid (blk9 HS6.out.res rfl (.string (str A0)) (.string (str A1)) (.int .u8 (m.kind.toNat:Int)) (.int .i64 m.mode) (.int .i64 A4) (.int .i64 A5) (.int .i64 A6) (.int .i64 (bl:Int)) (.bool false)).drew;have HK9:=Lib.hid (kept9 (w:=w7) (w.heap.size+1) (.string (str A0)) (.string (str A1)) (.int .u8 (m.kind.toNat:Int)) (.int .i64 m.mode) (.int .i64 A4) (.int .i64 A5) (.int .i64 A6) (.int .i64 (bl:Int)) (.bool false)).drew;obtain ⟨W8,hW8⟩:∃ W8,(((((((((w7.setCell ⟨w.heap.size+1,0,none⟩ (.string (str A0))).setCell ⟨w.heap.size+1,1,none⟩ (.string (str A1))).setCell ⟨w.heap.size+1,2,none⟩ (.int .u8 (m.kind.toNat:Int))).setCell ⟨w.heap.size+1,3,none⟩ (.int .i64 m.mode)).setCell ⟨w.heap.size+1,4,none⟩ (.int .i64 A4)).setCell ⟨w.heap.size+1,5,none⟩ (.int .i64 A5)).setCell ⟨w.heap.size+1,6,none⟩ (.int .i64 A6)).setCell ⟨w.heap.size+1,7,none⟩ (.int .i64 (bl:Int))).setCell ⟨w.heap.size+1,8,none⟩ (.bool false)).drew=W8:=⟨_,rfl⟩
  rw [hW8] at HB9 HK9 ⊢;have HB8:Blk W8 (w.heap.size+1) 41 (headC (headM m)):=by rw [HHF.out];exact HB9.out
  refine bodyPost_ret (ret_split rfl _ _ (w.heap.size+1) (.slice q n d) rfl rfl (headM m) HB8) rfl ?_
  obtain ⟨e1,e2,e3,e4,e5⟩:=HS6.out.done HK9.out HL.out;exact ⟨q,d,by rw [e1],e2,e3,e4,e5⟩
end Go.Proofs.YtnpkcneojilmkaaGreatDoor.Wr
end
