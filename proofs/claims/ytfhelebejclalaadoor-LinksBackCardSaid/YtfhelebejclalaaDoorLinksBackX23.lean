/- Texts of this seat, merged: what the proof reaches. -/
import Derived.Test.YtfhelebejclalaaDoorLinksBackX20
import Derived.Test.YtfhelebejclalaaDoorLinksBackX6
import Derived.WalkSpells
import Derived.Test.YtfhelebejclalaaDoorLinksBackX22
import Derived.Test.YtfhelebejclalaaDoorLinksBackX16
import Derived.Test.YtfhelebejclalaaDoorLinksBackX11
import Derived.Deep.DeepCutAuto
import Derived.Test.YtfhelebejclalaaDoorLinksBackX19
import Derived.Deep.RegionLaw
import Derived.BigQuiet
import Derived.Test.YtfhelebejclalaaDoorLinksBackX21
import Derived.Test.YtfhelebejclalaaDoorLinksBackX17
namespace Go.Proofs.YtfhelebejclalaaDoor
namespace Base
end Base
namespace Bk
end Bk
namespace Block
end Block
namespace Byt
end Byt
namespace Lnk
end Lnk
namespace Mem
end Mem
namespace Mk
end Mk
namespace Rec
end Rec
namespace Tre
end Tre
namespace Txt
end Txt
end Go.Proofs.YtfhelebejclalaaDoor
section
namespace Go.Proofs.YtfhelebejclalaaDoor.Tre
open Go.ChangeShapes Go.WideShapes Go.ChangeAt Go.RowKit Base Byt Txt Bk Block Mem Go.Lib
set_option linter.unusedVariables false
set_option maxRecDepth 100000
def ClonePost (w:World) (n:Nat) (bs:List UInt8) (e:Ending) (w':World):Prop:=
 ∃ p c,e=.returned (.slice p n c)∧n≤c∧c≤maxLen∧BAt w' p n bs∧(∀ x,p=some x → w.heap.size≤x.block)∧Below w.heap.size w w'
set_option maxHeartbeats 1000000 in
theorem clone_any (p:Option Addr) (n c:Nat) (bs:List UInt8) (w:World) (h:BAt w p n bs) (hl:bs.length=n) (hn:n≤140737488351232) :
 Calls Tryd.prog 26 #[.slice p n c] w (ClonePost w n bs):=by
 obtain ⟨i0,hi,hz0,hz1,hz2⟩:=info_parts infoU8;have HI:=Lib.hid hi;have HZ0:=Lib.hid hz0;have HZ1:=Lib.hid hz1;have HZ2:=Lib.hid hz2;have HB:=Lib.hid h;have HL:=Lib.hid hl;have hq:∀ w,(binOp .eql 23 (.slice p n c) (.slice none 0 0)).run Tryd.prog w=.ok (.bool p.isNone) w:=fun w => Lib.run_eql_slice_nil w 23 5 p n c 0 0 Tryd.underlying23
 clear hi hz0 hz1 hz2 h hl
 go_enter Tryd.func26,Tryd.ntmps26
 cases p with
 | none =>
   have h0:n=0:=by
    rcases Nat.eq_zero_or_pos n with h0 | h0
    ·exact h0
    ·obtain ⟨_,_,he,_⟩:=HB.out h0
     cases he
   subst h0
   go_wp2
   go_ret
   have hb:bs=[]:=List.eq_nil_of_length_eq_zero HL.out;subst hb;exact ⟨none,0,rfl,Nat.le_refl _,by decide,BAt.none_ _ _,(fun x h => by cases h),Below.refl _ _⟩
 | some a =>
   go_wp2_with (at_builtin;refine append_bytes rfl _ _ 23 rfl w.heap.size 5 i0 Tryd.underlying23 HI.out HZ0.out HZ1.out HZ2.out _ 0 [] rfl (World.ownsRow_made w #[] 0 (Nat.le_refl _) (by decide) rfl) (some a) n c bs rfl (HB.out.alloc _) HL.out ?d2 ?d3 ?_)
   case d2 => omega
   case d3 => simp
   intro v2 w2 hown hgrow;have ho2:OwnB w2 w.heap.size v2 n bs:=by simpa [OwnB] using hown
   have hk2:Kept noneB w w2:=(((Kept.refl noneB w).alloc _)).grown hgrow (by intro k hk;simp [Value.ownBlock] at hk;omega)
   have h12:Below w.heap.size w w2:=hk2.below (Nat.le_refl _) (fun _ h => h.elim)
   obtain ⟨p2,c2,rfl,hle2,hmx2,hb2,_,hat2⟩:=ho2.slice;have P:=Lib.hid (And.intro hle2 (And.intro hmx2 (And.intro hb2 (And.intro hat2 h12))));clear hown hgrow ho2 hk2 h12 hle2 hmx2 hb2 hat2
   go_wp2
   go_ret
   exact ⟨p2,c2,rfl,P.out.1,P.out.2.1,P.out.2.2.1,fun x hx => (P.out.2.2.2.1 x hx).1,P.out.2.2.2.2⟩
theorem rising_of_good {t:List NodeV} (h:goodT t=true):Rising t:=by
 simp only [goodT,Bool.and_eq_true,List.all_eq_true,List.mem_range] at h
 have key:∀ k,k≤t.length → Rising (t.take k):=fun k => by
  induction k with
  | zero => exact fun _ => List.Pairwise.nil
  | succ k ih =>
    intro hk;have:=h.2 k (by omega)
    rw [goodAt_is,Bool.and_eq_true,stepT,Bool.and_eq_true,Bool.or_eq_true] at this;refine rising_take (by omega) (ih (by omega)) ?_
    rcases this.1.2 with h1 | h1
    ·exact .inl (of_decide_eq_true h1)
    ·exact .inr h1
 have:=key t.length (Nat.le_refl _)
 rwa [List.take_length] at this
end Go.Proofs.YtfhelebejclalaaDoor.Tre
end
section
namespace Go.Proofs.YtfhelebejclalaaDoor.Lnk
open Mem Tre
set_option linter.unusedVariables false
section
variable {t:List NodeV} {os:List (List UInt8)}
theorem good_at_all (hg:goodT t=true) {k:Nat} (hk:k < t.length):goodAt t k=true:=by
 unfold goodT at hg;simp only [Bool.and_eq_true,List.all_eq_true,List.mem_range] at hg;exact hg.2 k hk
theorem getN_eq {k:Nat} (hk:k < t.length):t.getD k zeroN=t[k]:=by rw [List.getD,List.getElem?_eq_getElem hk];rfl
theorem node_good (hg:goodT t=true) {x:NodeV} (hx:x ∈ t):x.kind≠49∧goodD x.mem=true∧(x.kind≠48 → x.leader=[]):=by
 obtain ⟨k,hk,rfl⟩:=List.mem_iff_getElem.1 hx;have h:=good_at_all hg hk;unfold goodAt isNodeD at h
 dsimp only at h
 rw [getN_eq hk] at h;simp only [Bool.and_eq_true,decide_eq_true_eq] at h;refine ⟨h.1.1.1,h.1.1.2,fun hn => ?_⟩
 have h2:=h.2;unfold ledD at h2;rw [if_neg hn] at h2;exact of_decide_eq_true h2
theorem nodeAt_self (hg:goodT t=true) {x:NodeV} (hx:x ∈ t):nodeAt t x.path=x:=by
 obtain ⟨k,hk,rfl⟩:=List.mem_iff_getElem.1 hx;unfold nodeAt;rw [seek_found (rising_of_good hg) hk (by rw [getN_eq hk]),Option.getD_some,getN_eq hk]
theorem file_leads (hg:goodT t=true) {x:NodeV} (hx:x ∈ t) (h48:x.kind=48):∃ y ∈ t,y.path=x.leader∧y.kind=48∧y.leader=y.path∧(y.mode=x.mode∧y.uid=x.uid∧y.gid=x.gid∧y.time=x.time)∧y.body=x.body∧(y=x ∨ ltB y.path x.path=true):=by
 obtain ⟨k,hk,rfl⟩:=List.mem_iff_getElem.1 hx;have h:=good_at_all hg hk;unfold goodAt at h
 dsimp only at h
 rw [getN_eq hk] at h;rw [Bool.and_eq_true] at h;have h2:=h.2;unfold ledD at h2;rw [if_pos h48] at h2
 cases hf:findN (t.take (k+1)) t[k].leader with
 | none => rw [hf] at h2;cases h2
 | some y =>
   rw [hf] at h2;unfold ledO at h2;simp only [Bool.and_eq_true,decide_eq_true_eq] at h2;unfold findN at hf;have hy:=List.mem_of_find?_eq_some hf;have hp':=List.find?_some hf;have hp:(y.path == t[k].leader)=true:=hp';obtain ⟨j,hj,e⟩:=List.mem_iff_getElem.1 hy;rw [List.length_take] at hj;rw [List.getElem_take] at e;refine ⟨y,List.mem_of_mem_take hy,by simpa using hp,h2.1,h2.2.1,h2.2.2.1,h2.2.2.2,?_⟩
   rcases Nat.lt_or_ge j k with hlt | hge
   ·right
    have:=rising_get (rising_of_good hg) hlt hk;rw [getN_eq hk,getN_eq (show j < t.length by omega),e] at this
    exact this
   ·left
    have hjk:j=k:=by omega
    subst hjk;exact e.symm
theorem file_target {m:MemV} (h:goodD m=true) (hk:m.kind=48):m.target=[]:=by
 unfold goodD at h;simp only [Bool.and_eq_true] at h;have h2:=h.2;rw [if_pos (.inl hk)] at h2
 simpa using h2
theorem class_same (hg:goodT t=true) {x y:NodeV} (hx:x ∈ t) (hy:y ∈ t) (h1:x.kind=48) (h2:y.kind=48) (hl:y.leader=x.leader):x=nodeM x.path y.mem x.leader:=by
 obtain ⟨a,ha,a1,a2,a3,a4,a5,_⟩:=file_leads hg hx h1;obtain ⟨b,hb,b1,b2,b3,b4,b5,_⟩:=file_leads hg hy h2;have hab:a=b:=by rw [← nodeAt_self hg ha,← nodeAt_self hg hb,a1,b1,hl]
 subst hab;have t1:=file_target (node_good hg hx).2.1 h1;have t2:=file_target (node_good hg hy).2.1 h2
 cases x
 cases y
 simp only [NodeV.mem] at *;simp only [nodeM,NodeV.mk.injEq];refine ⟨trivial,t1.trans t2.symm,trivial,h1.trans h2.symm,?_,?_,?_,?_,?_⟩
 ·exact a4.1.symm.trans b4.1
 ·exact a4.2.1.symm.trans b4.2.1
 ·exact a4.2.2.1.symm.trans b4.2.2.1
 ·exact a4.2.2.2.symm.trans b4.2.2.2
 ·exact a5.symm.trans b5
theorem order_nodup (hg:goodT t=true) (ho:OrderOf t os):os.Nodup:=by
 refine ho.nodup_iff.2 ?_
 unfold List.Nodup;rw [List.pairwise_map];exact (rising_of_good hg).imp fun h => ltB_ne h
theorem order_mem (ho:OrderOf t os):∀ p ∈ os,p ∈ t.map (·.path):=fun p hp => ho.mem_iff.1 hp
theorem order_get (ho:OrderOf t os) {i:Nat} (hi:i < os.length):nodeAt t (os.getD i []) ∈ t∧(nodeAt t (os.getD i [])).path=os.getD i []:=by
 have h:os.getD i [] ∈ t.map (·.path):=by
  refine order_mem ho _ ?_
  rw [List.getD,List.getElem?_eq_getElem hi];exact List.getElem_mem hi
 exact ⟨(nodeAt_path h).2,(nodeAt_path h).1⟩
theorem linksD_len (ho:OrderOf t os):(linksD t os).length=os.length:=by rw [linksD_is (order_mem ho)];simp
theorem linksD_get (ho:OrderOf t os) {i:Nat} (hi:i < os.length):(linksD t os).getD i zeroMv=memAt t os i:=by
 rw [linksD_is (order_mem ho),List.getD,List.getElem?_map,List.getElem?_range hi];rfl
theorem hard_good {x:NodeV} (h:goodD x.mem=true) {p:List UInt8} (hp:cleanOk p=true):goodD (hardN x p)=true:=by
 unfold goodD at h ⊢;simp only [Bool.and_eq_true] at h ⊢;refine ⟨⟨⟨⟨h.1.1.1.1,h.1.1.1.2⟩,decide_eq_true (Nat.zero_le _)⟩,by show ((49:UInt8) == 48 || ([]:List UInt8) == [])=true;decide⟩,?_⟩
 show (if (49:UInt8)=48 ∨ (49:UInt8)=53 then p == [] else if (49:UInt8)=49 then cleanOk p else if (49:UInt8)=50 then _ else false)=true
 rw [if_neg (by decide),if_pos rfl]
 exact hp
theorem memAt_good (hg:goodT t=true) (ho:OrderOf t os) {i:Nat} (hi:i < os.length):goodD (memAt t os i)=true:=by
 have hx:=order_get ho hi;unfold memAt
 split
 ·exact (node_good hg hx.1).2.1
 ·have hr:=order_get ho (show repOf t os i < os.length from Nat.lt_of_le_of_lt (rep_le i) hi)
  refine hard_good (node_good hg hx.1).2.1 ?_
  rw [← hr.2];exact good_clean (node_good hg hr.1).2.1
theorem links_good (hg:goodT t=true) (ho:OrderOf t os):∀ m ∈ linksD t os,goodD m=true:=fun m hm => by
 rw [linksD_is (order_mem ho)] at hm;obtain ⟨i,hi,rfl⟩:=List.mem_map.1 hm;exact memAt_good hg ho (List.mem_range.1 hi)
def stN (t:List NodeV) (os:List (List UInt8)) (k:Nat):St:=(List.range k).map fun i => (os.getD i [],repOf t os i)
theorem stN_apart (hn:os.Nodup) {k:Nat} (hk:k≤os.length):Apart (stN t os k):=by
 unfold Apart stN;rw [List.map_map];unfold List.Nodup;rw [List.pairwise_iff_getElem];intro i j hi hj hij;rw [List.length_map,List.length_range] at hi hj;rw [List.getElem_map,List.getElem_map,List.getElem_range,List.getElem_range];have:=(List.pairwise_iff_getElem.1 hn) i j (by omega) (by omega) hij
 show os.getD i []≠os.getD j [];rw [List.getD,List.getD,List.getElem?_eq_getElem (by omega),List.getElem?_eq_getElem (by omega)]
 exact this
theorem stN_put (hn:os.Nodup) {k:Nat} (hk:k < os.length):putS (stN t os k) (os.getD k []) (repOf t os k)=stN t os (k+1):=by
 unfold putS stN;rw [List.range_succ,List.map_append]
 congr 1
 refine List.filter_eq_self.2 fun e he => ?_
 obtain ⟨i,hi,rfl⟩:=List.mem_map.1 he;rw [List.mem_range] at hi;have:=(List.pairwise_iff_getElem.1 hn) i k (by omega) (by omega) hi
 have hne:os.getD i []≠os.getD k []:=by
  rw [List.getD,List.getD,List.getElem?_eq_getElem (by omega),List.getElem?_eq_getElem (by omega)]
  exact this
 simpa using hne
theorem links_lays (hg:goodT t=true) (ho:OrderOf t os):∀ k,k≤os.length → laysD (linksD t os) k=.ok (stN t os k)
 | 0,_ => rfl
 | k+1,hk => by
   have hn:=order_nodup hg ho;have hlt:k < os.length:=by omega
   have hx:=order_get ho hlt;refine laysD_step (links_lays hg ho k (by omega)) ?_
   unfold layD
   dsimp only
   rw [linksD_get ho hlt]
   by_cases hr:repOf t os k=k
   ·have hm:memAt t os k=(nodeAt t (os.getD k [])).mem:=by unfold memAt;rw [if_pos hr]
    rw [hm,if_neg (show ¬ (nodeAt t (os.getD k [])).mem.kind=49 from (node_good hg hx.1).1)]
    have:=stN_put (t:=t) hn hlt;rw [hr] at this;show some (putS _ (nodeAt t (os.getD k [])).path k)=_;rw [hx.2,this]
   ·have hrk:repOf t os k < k:=by have:=rep_le (t:=t) (os:=os) k;omega
    have hm:memAt t os k=hardN (nodeAt t (os.getD k [])) (os.getD (repOf t os k) []):=by unfold memAt;rw [if_neg hr]
    have h48:(nodeAt t (os.getD k [])).kind=48:=by
     by_cases h:(nodeAt t (os.getD k [])).kind=48
     ·exact h
     ·exact absurd (rep_other h) hr
    rw [hm,if_pos (show (hardN (nodeAt t (os.getD k [])) (os.getD (repOf t os k) [])).kind=49 from rfl)]
    have hl:Tre.look (stN t os k) (hardN (nodeAt t (os.getD k [])) (os.getD (repOf t os k) [])).target=some (repOf t os k):=by
     have hin:(os.getD (repOf t os k) [],repOf t os (repOf t os k)) ∈ stN t os k:=List.mem_map.2 ⟨repOf t os k,List.mem_range.2 hrk,rfl⟩;have:=look_mem (stN_apart hn (by omega)) hin
     rw [rep_rep] at this;exact this
    rw [hl]
    dsimp only
    have hk2:((linksD t os).getD (repOf t os k) zeroMv).kind=48:=by
     rw [linksD_get ho (by omega)]
     have:memAt t os (repOf t os k)=(nodeAt t (os.getD (repOf t os k) [])).mem:=by unfold memAt;rw [if_pos (rep_rep k)]
     rw [this];exact (rep_kind k).trans h48
    rw [if_pos hk2];show some (putS _ (nodeAt t (os.getD k [])).path (repOf t os k))=_;rw [hx.2,stN_put hn hlt]
theorem ltB_path_eq {a b:List (List UInt8)} (ha:a.Pairwise fun x y => ltB x y=true) (hb:b.Pairwise fun x y => ltB x y=true) (h:a.Perm b):a=b:=
 List.Perm.eq_of_pairwise (fun x y _ _ (h1:ltB x y=true) (h2:ltB y x=true) => by rw [ltB_asym h1] at h2;cases h2) ha hb h
theorem links_back (hg:goodT t=true) (ho:OrderOf t os):foldD (linksD t os)=(t,0,0):=by
 have hn:=order_nodup hg ho;have hS:=links_lays hg ho os.length (Nat.le_refl _);have hA:=stN_apart (t:=t) hn (Nat.le_refl _);have e:=foldD_ok (badAt_none (links_good hg ho)) (by rw [linksD_len ho];exact hS)
 rw [e]
 congr 1
 obtain ⟨T,hT⟩:∃ T,sortS (stN t os os.length)=T:=⟨_,rfl⟩;have hTp:T.Perm (stN t os os.length):=by rw [← hT];exact sortS_perm _
 have hTr:RiseS T:=by rw [← hT];exact sortS_rise hA
 have hin:∀ a ∈ T,∃ i,i < os.length∧a=(os.getD i [],repOf t os i):=fun a ha => by
  obtain ⟨i,hi,rfl⟩:=List.mem_map.1 (hTp.mem_iff.1 ha);exact ⟨i,List.mem_range.1 hi,rfl⟩
 have hkeys:T.map (·.1)=t.map (·.path):=by
  refine ltB_path_eq (List.pairwise_map.2 hTr) (List.pairwise_map.2 (rising_of_good hg)) ?_
  refine (hTp.map _).trans (List.Perm.trans (List.Perm.of_eq ?_) ho);unfold stN;rw [List.map_map];apply List.ext_getElem
  ·simp
  ·intro i h1 h2
   simp only [List.getElem_map,List.getElem_range,Function.comp];rw [List.getD,List.getElem?_eq_getElem h2];rfl
 have hnode:∀ a ∈ T,nodeD (linksD t os) T a=nodeAt t a.1:=fun a ha => by
  obtain ⟨i,hi,rfl⟩:=hin a ha;have hri:repOf t os i < os.length:=Nat.lt_of_le_of_lt (rep_le i) hi;have hx:=order_get ho hi;have hr:=order_get ho hri
  have hm:(linksD t os).getD (repOf t os i) zeroMv=(nodeAt t (os.getD (repOf t os i) [])).mem:=by
   rw [linksD_get ho hri];unfold memAt;rw [if_pos (rep_rep i)]
  unfold nodeD;rw [show ((os.getD i [],repOf t os i):List UInt8 × Nat).2=repOf t os i from rfl,hm,show ((os.getD i [],repOf t os i):List UInt8 × Nat).1=os.getD i [] from rfl]
  by_cases h48:(nodeAt t (os.getD i [])).kind=48
  ·have hr48:(nodeAt t (os.getD (repOf t os i) [])).kind=48:=(rep_kind i).trans h48
   have hsame:=rep_file (t:=t) (os:=os) h48;have hcls:=class_same hg hx.1 hr.1 h48 hr48 hsame.2.1.2.2;rw [if_pos (show (nodeAt t (os.getD (repOf t os i) [])).mem.kind=48 from hr48)]
   have hlead:leadD T (repOf t os i)=(nodeAt t (os.getD i [])).leader:=by
    obtain ⟨y,hy,y1,y2,y3,_,_,_⟩:=file_leads hg hx.1 h48;have hyo:y.path ∈ os:=ho.mem_iff.2 (List.mem_map_of_mem hy);obtain ⟨a,hal,ha⟩:=List.mem_iff_getElem.1 hyo;have hga:os.getD a []=y.path:=by rw [List.getD,List.getElem?_eq_getElem hal,Option.getD_some,ha]
    have hna:nodeAt t (os.getD a [])=y:=by rw [hga];exact nodeAt_self hg hy
    have hsc:SameC t os i a:=⟨by rw [hna];exact y2,h48,by rw [hna,y3,y1]⟩
    have hra:repOf t os i=repOf t os a:=rep_same hsc;have hT1:(y.path,repOf t os i) ∈ T:=hTp.mem_iff.2 (List.mem_map.2 ⟨a,List.mem_range.2 hal,by rw [hga,hra]⟩)
    obtain ⟨f,hf,hfe⟩:=List.mem_iff_getElem.1 hT1;have hgf:T.getD f ([],0)=(y.path,repOf t os i):=by rw [List.getD,List.getElem?_eq_getElem hf,Option.getD_some,hfe]
    have:=leadD_self hf (fun j hj h2 => by
     have hjl:j < T.length:=by omega
     have hgj:T.getD j ([],0)=T[j]:=by rw [List.getD,List.getElem?_eq_getElem hjl];rfl
     rw [hgf,hgj] at h2;obtain ⟨b,hb,hbe⟩:=hin T[j] (List.getElem_mem hjl)
     have hrb:repOf t os b=repOf t os i:=by
      have:=congrArg Prod.snd hbe;rw [h2] at this;exact this.symm
     have hxb:=order_get ho hb
     have hb48:(nodeAt t (os.getD b [])).kind=48:=by
      rw [← rep_kind (t:=t) (os:=os) b,hrb];exact hr48
     have hbl:(nodeAt t (os.getD b [])).leader=(nodeAt t (os.getD i [])).leader:=by
      rw [← (rep_file (t:=t) (os:=os) hb48).2.1.2.2,hrb];exact hsame.2.1.2.2
     obtain ⟨z,hz,z1,_,_,_,_,z6⟩:=file_leads hg hxb.1 hb48;have hzy:z.path=y.path:=by rw [z1,hbl,y1]
     have hlt:=(List.pairwise_iff_getElem.1 hTr) j f hjl hf hj;rw [hfe,hbe] at hlt;have hlt2:ltB (os.getD b []) y.path=true:=hlt;rcases z6 with z6 | z6
     ·rw [← hxb.2,← z6,hzy,ltB_irrefl] at hlt2
      cases hlt2
     ·rw [hzy,hxb.2,ltB_asym hlt2] at z6
      cases z6)
    rw [hgf] at this;exact this.trans y1
   rw [hlead];have hxp:=hx.2
   conv => rhs;rw [hcls,hxp]
  ·rw [if_neg (show ¬ (nodeAt t (os.getD (repOf t os i) [])).mem.kind=48 from fun h => h48 ((rep_kind i).symm.trans h)),rep_other h48]
   have hld:=(node_good hg hx.1).2.2 h48;have hxp:=hx.2;obtain ⟨x,hxe⟩:∃ x,nodeAt t (os.getD i [])=x:=⟨_,rfl⟩;rw [hxe] at hxp hld ⊢;rw [← hxp];exact node_eq rfl hld.symm
 unfold treeD;rw [hT,List.map_congr_left hnode];have:T.map (fun a => nodeAt t a.1)=(T.map (·.1)).map (nodeAt t):=by rw [List.map_map];rfl
 rw [this,hkeys,List.map_map]
 conv => rhs;rw [← List.map_id t]
 exact List.map_congr_left fun x hx => nodeAt_self hg hx
end
end Go.Proofs.YtfhelebejclalaaDoor.Lnk
end
section
namespace Go.Proofs.YtfhelebejclalaaDoor.Lnk
open Mem Tre
set_option linter.unusedVariables false
def soundAt (ms:List MemV) (i:Nat):Bool:=
 let m:=ms.getD i zeroMv
 ((List.range i).all fun k => !decide ((ms.getD k zeroMv).path=m.path)) && ((!decide (m.kind=49) || (List.range i).any fun k => decide ((ms.getD k zeroMv).path=m.target) && decide ((ms.getD k zeroMv).kind=48)) && goodD m)
def soundD (ms:List MemV):Bool:=(List.range ms.length).all (soundAt ms)
section
variable {t:List NodeV} {os:List (List UInt8)}
end
theorem perm_of_nodup:∀ (a b:List (List UInt8)),a.Nodup → (∀ x ∈ a,x ∈ b) → b.length≤a.length → a.Perm b
 | [],b,_,_,hl => by
   have:b=[]:=List.eq_nil_of_length_eq_zero (Nat.le_zero.1 hl);rw [this]
 | x :: a,b,hn,hs,hl => by
   rw [List.nodup_cons] at hn;have hx:x ∈ b:=hs x (List.mem_cons_self ..);have hp:=List.perm_cons_erase hx
   have hlen:(b.erase x).length≤a.length:=by
    have:=hp.length_eq;simp only [List.length_cons] at this hl;omega
   refine List.Perm.trans (List.Perm.cons x (perm_of_nodup a (b.erase x) hn.2 (fun y hy => ?_) hlen)) hp.symm
   have hne:y≠x:=fun e => hn.1 (by rw [← e];exact hy)
   exact (List.mem_erase_of_ne hne).2 (hs y (List.mem_cons_of_mem _ hy))
theorem order_iff {t:List NodeV} (hg:goodT t=true) (os:List (List UInt8)):OrderOf t os ↔ os.length=t.length∧(∀ p ∈ os,(findN t p).isSome=true)∧os.Nodup:=by
 constructor
 ·intro h
  refine ⟨by have:=h.length_eq;rwa [List.length_map] at this,fun p hp => ?_,order_nodup hg h⟩
  obtain ⟨x,hx,rfl⟩:=List.mem_map.1 (h.mem_iff.1 hp);unfold findN;rw [List.find?_isSome];exact ⟨x,hx,by simp⟩
 ·rintro ⟨h1,h2,h3⟩
  refine perm_of_nodup os _ h3 (fun p hp => ?_) (by rw [List.length_map];omega)
  have:=h2 p hp;unfold findN at this;rw [List.find?_isSome] at this;obtain ⟨x,hx,he⟩:=this;exact List.mem_map.2 ⟨x,hx,by simpa using he⟩
end Go.Proofs.YtfhelebejclalaaDoor.Lnk
end
section
namespace Go.Proofs.YtfhelebejclalaaDoor.Lnk
open Mem Tre
set_option linter.unusedVariables false
def findP (xs:List NP) (p:List UInt8):Option NP:=xs.find? fun y => decide (y.m.path=p)
def leftP (xs:List NP) (os:List (List UInt8)) (k:Nat) (p:List UInt8):Option NP:=if p ∈ os.take k then none else findP xs p
section
variable {xs:List NP} {os:List (List UInt8)} {k:Nat}
theorem findP_map (p:List UInt8):(findP xs p).map NP.m=findN (xs.map NP.m) p:=by
 unfold findP findN;rw [List.find?_map]
 congr 2
 funext y
 show decide (y.m.path=p)=(y.m.path == p)
 by_cases h:y.m.path=p<;>simp [h]
theorem getQ_eq (hk:k < xs.length):xs.getD k zeroQ=xs[k]:=by rw [List.getD,List.getElem?_eq_getElem hk];rfl
theorem findP_succ (hr:Rising (xs.map NP.m)) (hk:k < xs.length):findP (xs.take (k+1))=fun p => if p=(xs.getD k zeroQ).m.path then some (xs.getD k zeroQ) else findP (xs.take k) p:=by
 funext p
 unfold findP;rw [List.take_succ_eq_append_getElem hk,List.find?_append,← getQ_eq hk,List.find?_cons]
 by_cases hp:p=(xs.getD k zeroQ).m.path
 ·rw [if_pos hp,hp,decide_eq_true rfl]
  have:(xs.take k).find? (fun y => decide (y.m.path=(xs.getD k zeroQ).m.path))=none:=by
   rw [List.find?_eq_none];intro x hx;obtain ⟨i,hi,rfl⟩:=List.mem_take_iff_getElem.1 hx;have:=(List.pairwise_iff_getElem.1 hr) i k (by rw [List.length_map];omega) (by rw [List.length_map];exact hk) (by omega)
   rw [List.getElem_map,List.getElem_map] at this;have hne:=ltB_ne this;rw [getQ_eq hk]
   simpa using hne
  rw [this];rfl
 ·rw [if_neg hp,decide_eq_false (fun e => hp e.symm)]
  simp
theorem leftP_zero:leftP xs os 0=findP xs:=by
 funext p
 unfold leftP;rw [List.take_zero,if_neg (List.not_mem_nil)]
theorem leftP_succ (hk:k < os.length):leftP xs os (k+1)=fun p => if p=os.getD k [] then none else leftP xs os k p:=by
 funext p
 unfold leftP;rw [List.take_succ_eq_append_getElem hk,List.getD,List.getElem?_eq_getElem hk,Option.getD_some]
 by_cases hp:p=os[k]
 ·rw [if_pos hp,if_pos (by rw [hp];exact List.mem_append.2 (.inr (List.mem_singleton.2 rfl)))]
 ·rw [if_neg hp]
  by_cases h2:p ∈ os.take k
  ·rw [if_pos h2,if_pos (by rw [List.mem_append];exact .inl h2)]
  ·rw [if_neg h2,if_neg (by rw [List.mem_append,List.mem_singleton];exact fun h => h.elim h2 hp)]
def Took (xs:List NP) (os:List (List UInt8)) (k:Nat) (zs:List NP):Prop:=∀ i,i < k → leftP xs os i (os.getD i [])=some (zs.getD i zeroQ)
theorem took_find {zs:List NP} (h:Took xs os k zs) {i:Nat} (hi:i < k):findP xs (os.getD i [])=some (zs.getD i zeroQ):=by
 have:=h i hi;unfold leftP at this
 split at this
 ·cases this
 ·exact this
theorem took_order {zs:List NP} (hg:goodT (xs.map NP.m)=true) (hl:os.length=xs.length) (h:Took xs os os.length zs):OrderOf (xs.map NP.m) os:=by
 rw [order_iff hg];refine ⟨by rw [List.length_map];exact hl,fun p hp => ?_,?_⟩
 ·obtain ⟨i,hi,rfl⟩:=List.mem_iff_getElem.1 hp
  have:=took_find h hi;rw [List.getD,List.getElem?_eq_getElem hi,Option.getD_some] at this;rw [← findP_map,this];rfl
 ·rw [List.nodup_iff_pairwise_ne,List.pairwise_iff_getElem]
  intro i j hi hj hij e;have:=h j hj;unfold leftP at this;rw [List.getD,List.getElem?_eq_getElem hj,Option.getD_some,if_pos] at this
  ·cases this
  ·rw [← e]
   exact List.mem_take_iff_getElem.2 ⟨i,by omega,rfl⟩
theorem not_order (hg:goodT (xs.map NP.m)=true) (hk:k < os.length) (h:leftP xs os k (os.getD k [])=none):¬ OrderOf (xs.map NP.m) os:=fun ho => by
 obtain ⟨_,h2,h3⟩:=(order_iff hg os).1 ho;have hget:os.getD k []=os[k]:=by rw [List.getD,List.getElem?_eq_getElem hk];rfl
 unfold leftP at h
 split at h
 ·next hm =>
  rw [hget] at hm;obtain ⟨i,hi,e⟩:=List.mem_take_iff_getElem.1 hm;exact (List.pairwise_iff_getElem.1 h3) i k (by omega) hk (by omega) e
 ·have:=h2 (os.getD k []) (by rw [hget];exact List.getElem_mem hk)
  rw [← findP_map,h] at this
  cases this
end
def firstP (t:List NodeV) (os:List (List UInt8)) (k:Nat) (l:List UInt8):Option Nat:=
 (List.range k).find? fun j => decide ((nodeAt t (os.getD j [])).kind=48) && decide ((nodeAt t (os.getD j [])).leader=l)
section
variable {t:List NodeV} {os:List (List UInt8)} {k:Nat}
theorem firstP_succ:firstP t os (k+1)=fun l => (firstP t os k l).or (if (nodeAt t (os.getD k [])).kind=48∧(nodeAt t (os.getD k [])).leader=l then some k else none):=by
 funext l
 unfold firstP;rw [List.range_succ,List.find?_append,List.find?_cons]
 by_cases h:(nodeAt t (os.getD k [])).kind=48∧(nodeAt t (os.getD k [])).leader=l
 ·rw [if_pos h,decide_eq_true h.1,decide_eq_true h.2];rfl
 ·rw [if_neg h]
  have:(decide ((nodeAt t (os.getD k [])).kind=48) && decide ((nodeAt t (os.getD k [])).leader=l))=false:=by
   simpa using fun h1 h2 => h ⟨h1,h2⟩
  rw [this];rfl
theorem first_other (h:(nodeAt t (os.getD k [])).kind≠48):firstP t os (k+1)=firstP t os k:=by
 rw [firstP_succ]
 funext l
 rw [if_neg (fun hh => h hh.1),Option.or_none]
theorem first_new (h:(nodeAt t (os.getD k [])).kind=48) (hn:firstP t os k (nodeAt t (os.getD k [])).leader=none):firstP t os (k+1)=fun l => if l=(nodeAt t (os.getD k [])).leader then some k else firstP t os k l:=by
 rw [firstP_succ]
 funext l
 by_cases hl:l=(nodeAt t (os.getD k [])).leader
 ·rw [if_pos hl,hl,hn,if_pos ⟨h,rfl⟩];rfl
 ·rw [if_neg hl,if_neg (fun hh => hl hh.2.symm),Option.or_none]
theorem first_old {f:Nat} (hf:firstP t os k (nodeAt t (os.getD k [])).leader=some f):firstP t os (k+1)=firstP t os k:=by
 rw [firstP_succ]
 funext l
 by_cases hl:(nodeAt t (os.getD k [])).leader=l
 ·rw [← hl,hf];rfl
 ·rw [if_neg (fun hh => hl hh.2),Option.or_none]
theorem first_lt {l:List UInt8} {f:Nat} (hf:firstP t os k l=some f):f < k:=by
 unfold firstP at hf;exact List.mem_range.1 (List.mem_of_find?_eq_some hf)
theorem rep_first (h:(nodeAt t (os.getD k [])).kind=48):repOf t os k=(firstP t os k (nodeAt t (os.getD k [])).leader).getD k:=by
 have e:repOf t os k=(firstP t os (k+1) (nodeAt t (os.getD k [])).leader).getD k:=by
  unfold repOf firstP;rw [if_pos h]
 rw [e,firstP_succ]
 dsimp only
 cases firstP t os k (nodeAt t (os.getD k [])).leader with
 | some f => rfl
 | none => rw [if_pos ⟨h,rfl⟩];rfl
theorem mem_other (h:(nodeAt t (os.getD k [])).kind≠48):memAt t os k=(nodeAt t (os.getD k [])).mem:=by
 unfold memAt;rw [if_pos (rep_other h)]
theorem mem_new (h:(nodeAt t (os.getD k [])).kind=48) (hn:firstP t os k (nodeAt t (os.getD k [])).leader=none):memAt t os k=(nodeAt t (os.getD k [])).mem:=by
 unfold memAt;rw [if_pos (by rw [rep_first h,hn];rfl)]
theorem mem_old {f:Nat} (h:(nodeAt t (os.getD k [])).kind=48) (hf:firstP t os k (nodeAt t (os.getD k [])).leader=some f):memAt t os k=hardN (nodeAt t (os.getD k [])) (os.getD f []):=by
 unfold memAt;have:=first_lt hf;rw [rep_first h,hf,Option.getD_some,if_neg (by omega)]
theorem body_other {x:NodeV} (h:goodD x.mem=true) (hk:x.kind≠48):x.body=[]:=by
 unfold goodD at h;simp only [Bool.and_eq_true,Bool.or_eq_true,beq_iff_eq] at h;rcases h.1.2 with h1 | h1
 ·exact absurd h1 hk
 ·exact h1
end
end Go.Proofs.YtfhelebejclalaaDoor.Lnk
end
section
namespace Go.Proofs.YtfhelebejclalaaDoor.Lnk
open Mem Tre
set_option linter.unusedVariables false
def leadsD (t:List NodeV):List NodeV:=t.filter fun y => decide (y.kind=48) && decide (y.leader=y.path)
def classOf (t:List NodeV) (l:List UInt8):List (List UInt8):=(t.filter fun x => decide (x.kind=48) && decide (x.leader=l)).map (·.path)
def classesD (t:List NodeV):List (List (List UInt8)):=(leadsD t).map fun y => classOf t y.path
section
variable {t:List NodeV}
theorem classOf_mem {l p:List UInt8}:p ∈ classOf t l ↔ ∃ x ∈ t,x.kind=48∧x.leader=l∧x.path=p:=by
 unfold classOf;rw [List.mem_map];constructor
 ·rintro ⟨x,hx,rfl⟩
  rw [List.mem_filter] at hx;simp only [Bool.and_eq_true,decide_eq_true_eq] at hx;exact ⟨x,hx.1,hx.2.1,hx.2.2,rfl⟩
 ·rintro ⟨x,hx,h1,h2,rfl⟩
  exact ⟨x,List.mem_filter.2 ⟨hx,by rw [decide_eq_true h1,decide_eq_true h2];rfl⟩,rfl⟩
theorem leads_mem {y:NodeV}:y ∈ leadsD t ↔ y ∈ t∧y.kind=48∧y.leader=y.path:=by
 unfold leadsD;rw [List.mem_filter];simp only [Bool.and_eq_true,decide_eq_true_eq]
end
end Go.Proofs.YtfhelebejclalaaDoor.Lnk
end
section
namespace Go.Proofs.YtfhelebejclalaaDoor.Lnk
open Go.ChangeShapes Go.WideShapes Go.ChangeAt Go.RowKit Base Byt Txt Bk Rec Block Mem Tre Go.Lib
set_option linter.unusedVariables false
set_option maxRecDepth 100000
def orderB (t:List NodeV) (os:List (List UInt8)):Bool:=decide (os.length=t.length) && (os.all (fun p => (findN t p).isSome) && decide os.Nodup)
theorem orderB_iff {t:List NodeV} (hg:goodT t=true) (os:List (List UInt8)):orderB t os=true ↔ OrderOf t os:=by
 rw [order_iff hg];simp only [orderB,Bool.and_eq_true,decide_eq_true_eq,List.all_eq_true]
def lmD (t:List NodeV) (os:List (List UInt8)):List MemV × Int:=if orderB t os=true then (linksD t os,0) else ([],1)
def LMemPost (w:World) (r:List MemV × Int) (e:Ending) (w':World):Prop:=
 ∃ q d ys,e=.returned (.tuple #[.slice q r.1.length d,.int .i64 r.2])∧ys.map MP.m=r.1∧MemsAt w' q r.1.length ys∧r.1.length≤d∧d≤maxLen∧Below w.heap.size w w'
def SSAt (w:World) (q:Option Addr) (n:Nat) (cc:List (List (List UInt8))):Prop:=
 cc.length=n ∧ ∃ ps:List (Option Addr × Nat),ps.length=n∧(∀ i,i < n → StrsAt w (ps.getD i (none,0)).1 (cc.getD i []).length (cc.getD i [])) ∧
  (0 < n → ∃ b o,q=some ⟨b,o,none⟩∧b < w.heap.size ∧ ∀ i,i < n → w.cell? ⟨b,o+i,none⟩=some (.slice (ps.getD i (none,0)).1 (cc.getD i []).length (ps.getD i (none,0)).2))
theorem SSAt.below {w w':World} {q:Option Addr} {n:Nat} {cc:List (List (List UInt8))} (h:SSAt w q n cc) (hb:Below w.heap.size w w'):SSAt w' q n cc:=by
 obtain ⟨h1,ps,h2,h3,h4⟩:=h;refine ⟨h1,ps,h2,fun i hi => (h3 i hi).below hb,fun h0 => ?_⟩
 obtain ⟨b,o,rfl,hbw,hc⟩:=h4 h0;refine ⟨b,o,rfl,Nat.lt_of_lt_of_le hbw hb.size,fun i hi => ?_⟩
 rw [hb.cell (p:=⟨b,o+i,none⟩) hbw];exact hc i hi
structure NodesOk (w:World) (p:Option Addr) (n c:Nat) (xs:List NP):Prop where
 at_:NodesAt w p n xs
 nc:n≤c
 cm:c≤maxLen
 few:n≤60
 room:∀ x ∈ xs,x.m.path.length≤140737488351232∧x.m.target.length≤140737488351232∧x.m.leader.length≤140737488351232∧x.m.body.length≤140737488351232
 good:goodT (xs.map NP.m)=true
theorem NodesOk.below {w w':World} {p:Option Addr} {n c:Nat} {xs:List NP} (h:NodesOk w p n c xs) (hb:Below w.heap.size w w'):NodesOk w' p n c xs:=⟨h.at_.below hb,h.nc,h.cm,h.few,h.room,h.good⟩
structure OrderOk (w:World) (p:Option Addr) (n c:Nat) (os:List (List UInt8)):Prop where
 at_:StrsAt w p n os
 nc:n≤c
 cm:c≤maxLen
 few:n≤100
 room:∀ s ∈ os,s.length≤140737488351232
structure MembersOk (w:World) (p:Option Addr) (n c:Nat) (xs:List MP):Prop where
 at_:MemsAt w p n xs
 nc:n≤c
 cm:c≤maxLen
 few:n≤60
 room:∀ x ∈ xs,x.m.path.length≤140737488351232∧x.m.target.length≤140737488351232∧x.m.body.length≤140737488351232
structure LinksC:Prop where
 members:∀ (w:World) (p:Option Addr) (n c:Nat) (xs:List NP) (a:Option Addr) (m d:Nat) (os:List (List UInt8)),NodesOk w p n c xs → OrderOk w a m d os → Path.Tabs w → Calls Tryd.prog 12 #[.slice p n c,.slice a m d] w (LMemPost w (lmD (xs.map NP.m) os))
 sound:∀ (w:World) (p:Option Addr) (n c:Nat) (xs:List MP),MembersOk w p n c xs → Path.Tabs w → Calls Tryd.prog 17 #[.slice p n c] w fun e w' => e=.returned (.bool (soundD (xs.map MP.m)))∧Below w.heap.size w w'
 classes:∀ (w:World) (p:Option Addr) (n c:Nat) (xs:List NP),NodesOk w p n c xs → Path.Tabs w → Calls Tryd.prog 21 #[.slice p n c] w fun e w' => ∃ q d,e=.returned (.slice q (classesD (xs.map NP.m)).length d)∧SSAt w' q (classesD (xs.map NP.m)).length (classesD (xs.map NP.m))∧Below w.heap.size w w'
def pA:NodeV:=⟨[97],[],[97],48,0,0,0,0,[]⟩
def pB:NodeV:=⟨[98],[],[97],48,0,0,0,0,[]⟩
def qA:NP:=⟨pA,none,0⟩
def qB:NP:=⟨pB,none,0⟩
def mB:MemV:=⟨[98],[],48,0,0,0,0,[]⟩
def mH:MemV:=⟨[97],[98],49,0,0,0,0,[]⟩
theorem pair_good:goodT [pA,pB]=true:=by decide +kernel
theorem pair_lm:lmD [pA,pB] [[98],[97]]=([mB,mH],0):=by decide +kernel
theorem pair_lm2:lmD [pA,pB] [[98]]=([],1):=by decide +kernel
theorem pair_classes:classesD [pA,pB]=[[[97],[98]]]:=by decide +kernel
theorem pair_sound:soundD [mB,mH]=true:=by decide +kernel
theorem zero_sound:soundD [zeroMv]=false:=by decide +kernel
theorem bodQ (w:World) (m:NodeV) (h:m.body=[]):BodAt w ⟨m,none,0⟩:=by
 refine ⟨?_,?_,Nat.zero_le _⟩
 ·show BAt w none m.body.length m.body
  rw [h];exact BAt.none_ w none
 ·show m.body.length≤0
  rw [h];exact Nat.le_refl _
def cells18 (x y:NP):Array Value:=(x.cs.toList++y.cs.toList).toArray
theorem nodes_two {w:World} {b:Nat} {x y:NP} (hb:Blk w b 45 (cells18 x y)) (hx:BodAt w x) (hy:BodAt w y):NodesAt w (some ⟨b,0,none⟩) 2 [x,y]:=by
 refine ⟨rfl,fun z hz => ?_,fun _ => ⟨b,0,rfl,hb.lt,fun i hi j hj => ?_⟩⟩
 ·rcases List.mem_cons.1 hz with rfl | hz
  ·exact hx
  ·rw [List.mem_singleton.1 hz];exact hy
 ·have e:cells18 x y=(flatN [x,y]).toArray:=by
   unfold cells18 flatN;simp
  rw [hb.cell,Nat.zero_add,e,List.getElem?_toArray,flatN_get [x,y] i hi j hj]
set_option maxHeartbeats 1000000 in
theorem pair_any (w:World):Calls Tryd.prog 23 #[] w fun e w' => ∃ q,e=.returned (.slice q 2 2)∧NodesOk w' q 2 2 [qA,qB]∧Below w.heap.size w w':=by
 go_enter Tryd.func23,Tryd.ntmps23
 have hX:Blk (w.alloc (.cells (cells18 qA qB) 45)) w.heap.size 45 (cells18 qA qB):=Blk.new w _ _;have hB:Below w.heap.size w (w.alloc (.cells (cells18 qA qB) 45)):=(Below.refl _ _).alloc (Nat.le_refl _) _
 have P:Hid (NodesOk (w.alloc (.cells (cells18 qA qB) 45)) (some ⟨w.heap.size,0,none⟩) 2 2 [qA,qB]∧Below w.heap.size w (w.alloc (.cells (cells18 qA qB) 45))):=Lib.hid ⟨⟨nodes_two hX (bodQ _ pA rfl) (bodQ _ pB rfl),Nat.le_refl _,by decide,by decide,fun x hx => by
  rcases List.mem_cons.1 hx with rfl | hx
  ·exact ⟨by decide,by decide,by decide,by decide⟩
  ·rw [List.mem_singleton.1 hx];exact ⟨by decide,by decide,by decide,by decide⟩,pair_good⟩,hB⟩
 clear hX hB
 go_wp2
 go_ret
 exact ⟨_,rfl,P.out.1,P.out.2⟩
end Go.Proofs.YtfhelebejclalaaDoor.Lnk
end
section
namespace Go.Proofs.YtfhelebejclalaaDoor.Lnk
open Go.ChangeShapes Go.WideShapes Go.ChangeAt Go.RowKit Base Byt Txt Bk Mk Mem Tre Go.Lib
set_option linter.unusedVariables false
set_option maxRecDepth 100000
def nodesV (f:List UInt8 → Option NP):List UInt8 → Option Value:=fun x => (f x).map fun y => .agg y.cs
theorem nodeZero (w:World):(zeroValue 45).run Tryd.prog w=.ok (.agg #[.string ⟨#[]⟩,.string ⟨#[]⟩,.string ⟨#[]⟩,.int .u8 0,.int .i64 0,.int .i64 0,.int .i64 0,.int .i64 0,.slice none 0 0]) w:=Tryd.zeroValue45 w
def InOPost (w:World) (xs:List NP) (os:List (List UInt8)) (n:Nat) (e:Ending) (w':World):Prop:=
 (∃ q zs,e=.returned (.tuple #[.slice q n n,.bool true])∧Took xs os n zs∧zs.length=n∧os.length=n∧NodesAt w' q n zs∧OrderOf (xs.map NP.m) os∧Below w.heap.size w w') ∨
 (e=.returned (.tuple #[.slice none 0 0,.bool false])∧¬ OrderOf (xs.map NP.m) os∧Below w.heap.size w w')
structure IoJ (w wr:World) (M:Nat) (xs:List NP) (k:Nat):Prop where
 bel:Below w.heap.size w wr
 map:MapK strK wr M (nodesV (findP (xs.take k)))
 new:w.heap.size≤M
structure IoI (w wr:World) (M g:Nat) (xs:List NP) (os:List (List UInt8)) (n k:Nat) (zs:List NP):Prop where
 bel:Below w.heap.size w wr
 map:MapK strK wr M (nodesV (leftP xs os k))
 new:w.heap.size≤M
 row:Rw wr g zs
 gnew:w.heap.size≤g
 len:zs.length=n
 took:Took xs os k zs
theorem IoI.below {w wr w':World} {M g n k:Nat} {xs zs:List NP} {os:List (List UInt8)} (h:IoI w wr M g xs os n k zs) (hb:Below wr.heap.size wr w'):IoI w w' M g xs os n k zs:=
 ⟨h.bel.trans (hb.mono h.bel.size),h.map.kept (Kept.of_below hb noneB) (fun h => h.elim),h.new,Blk.below h.row hb (Blk.lt h.row),h.gnew,h.len,h.took⟩
theorem took_set {xs zs:List NP} {os:List (List UInt8)} {k:Nat} {y:NP} (h:Took xs os k zs) (hk:k < zs.length) (hy:leftP xs os k (os.getD k [])=some y):Took xs os (k+1) (zs.set k y):=fun i hi => by
 rw [getSet zs k i y hk]
 by_cases hik:i=k
 ·rw [if_pos hik,hik];exact hy
 ·rw [if_neg hik];exact h i (by omega)
set_option maxHeartbeats 8000000 in
theorem inOrder_any (w:World) (p:Option Addr) (n c:Nat) (xs:List NP) (a:Option Addr) (m d:Nat) (os:List (List UInt8)) (hN:NodesOk w p n c xs) (hO:OrderOk w a m d os) :
 Calls Tryd.prog 25 #[.slice p n c,.slice a m d] w (InOPost w xs os n):=by
 obtain ⟨i0,hi,hz0,hz1,hz2⟩:=info_parts infoNod;have HI:=Lib.hid hi;have HZ0:=Lib.hid hz0;have HZ1:=Lib.hid hz1;have HZ2:=Lib.hid hz2;have hmm:=@run_makeMap Tryd.prog;have HM:=Lib.hid hN.at_;have HL:=Lib.hid hN.at_.1;have HG:=Lib.hid hN.good;have hfew:=hN.few;have HO:=Lib.hid hO.at_;have HOL:=Lib.hid hO.at_.1;clear hi hz0 hz1 hz2 hN hO
 go_enter Tryd.func25,Tryd.ntmps25
 by_cases hmn:m=n
 ·subst hmn
  obtain ⟨w1,hw1⟩:∃ w1,w.alloc (.map #[] 0)=w1:=⟨_,rfl⟩
  have HJ0:Hid (IoJ w w1 w.heap.size xs 0):=Lib.hid
   { bel:=by rw [← hw1];exact (Below.refl _ _).alloc (Nat.le_refl _) _
     map:=by
      have e:nodesV (findP (xs.take 0))=fun _ => none:=by funext l;rfl
      rw [e,← hw1];exact mapK_made strK w
     new:=Nat.le_refl _ }
  go_upto_region 4 with fail
  clear hw1 hmm
  go_wp2_with fail
  go_loopw [8,22] (fun _ i wr => ∃ (k:Nat),k≤m∧i=.int .i64 (k:Int)∧Hid (IoJ w wr w.heap.size xs k)) (fun _ i _ => m - (RowKit.intOf i).toNat)
  case atStart => exact ⟨0,Nat.zero_le _,rfl,HJ0⟩
  case round =>
   obtain ⟨k,hk,rfl,hJ⟩:=hrel
   by_cases hlt:k < m
   ·obtain ⟨b1,o1,rfl,hb1,hBd,hc⟩:=(HM.out.below hJ.out.bel).cells9 hlt
    obtain ⟨y,hy⟩:∃ y,xs.getD k zeroQ=y:=⟨_,rfl⟩;rw [hy] at hc hBd;have HY:=Lib.hid hy;obtain ⟨c0,c1,c2,c3,c4,c5,c6,c7,c8⟩:=hc;obtain ⟨W5,hW5⟩:∃ W5,wr.alloc (.cells y.cs 45)=W5:=⟨_,rfl⟩;have hB5:Below wr.heap.size wr W5:=by rw [← hW5];exact (Below.refl _ _).alloc (Nat.le_refl _) _
    have hBN:Blk W5 wr.heap.size 45 y.cs:=by rw [← hW5];exact Blk.new wr _ _
    have HB5:=Lib.hid hB5;have HM5:=Lib.hid (hJ.out.map.kept (Kept.of_below hB5 noneB) (fun h => h.elim))
    have z0:=hBN.cell 0;have z1:=hBN.cell 1;have z2:=hBN.cell 2;have z3:=hBN.cell 3;have z4:=hBN.cell 4;have z5:=hBN.cell 5;have z6:=hBN.cell 6;have z7:=hBN.cell 7;have z8:=hBN.cell 8;unfold NP.cs nodC at hW5;simp only [NP.cs,nodC,List.getElem?_toArray,List.getElem?_cons_zero,List.getElem?_cons_succ] at z0 z1 z2 z3 z4 z5 z6 z7 z8;have hltz:(k:Int) < (m:Int):=by omega
    clear hy hb1 hBd hBN hB5
    go_upto_region 7 with fail
    clear hW5 c0 c1 c2 c3 c4 c5 c6 c7 c8
    go_wp2_with (at_mapUpdate;refine wpList_putK (K:=strK) rfl (.tmp 26) (.tmp 28) (.tmp 29) rfl Tryd.underlying68 Tryd.underlying9 w.heap.size HM5.out rfl y.m.path rfl (.agg y.cs) rfl ?_)
    intro w7 hm7 hk7 hs7
    have HN:Hid (IoJ w w7 w.heap.size xs (k+1)):=by
     have hb:=hJ.out.bel.trans (HB5.out.mono hJ.out.bel.size);refine Lib.hid ⟨hb.trans (hk7.out.below hb.size (fun b hb => by rw [show b=w.heap.size from hb];exact Nat.le_refl _)),?_,Nat.le_refl _⟩
     have e:nodesV (findP (xs.take (k+1)))=fun z => if z=y.m.path then some (.agg y.cs) else nodesV (findP (xs.take k)) z:=by
      funext z
      unfold nodesV;rw [findP_succ (rising_of_good HG.out) (show k < xs.length by rw [HL.out];exact hlt),HY.out]
      by_cases h:z=y.m.path<;>simp [h]
     rw [e];exact hm7.out
    clear hm7 hk7 hs7 z0 z1 z2 z3 z4 z5 z6 z7 z8
    go_wp2
    go_roundw
    case rel => exact ⟨k+1,by omega,by go_num,HN⟩
    case measure => simp [RowKit.intOf];omega
   ·obtain rfl:k=m:=by omega
    have hks:¬ ((k:Int) < (k:Int)):=by omega
    have hb0:=hJ.out.bel;have hmp:=hJ.out.map;rw [List.take_of_length_le (by rw [HL.out];exact Nat.le_refl _)] at hmp
    have HMP:=Lib.hid hmp;have HB0:=Lib.hid hb0;clear hJ hmp hb0
    go_wp2_with (at_make;refine wpList_make_full _ rfl _ _ 22 rfl wr.heap.size 45 i0 _ 9 Tryd.underlying22 HI.out HZ0.out HZ1.out .i64 .i64 _ _ k rfl rfl rfl rfl (by rw [HZ2.out];omega) (by unfold maxLen;omega) (Nat.le_refl _) ?_)
    intro w3 hmade hgrow
    have hrw:=rw_made (B:=wr.heap.size) (w':=w3) (g:=wr.heap.size) (n:=k) (by
     have h9:=hmade;rw [made_nodes] at h9
     exact h9)
    have hk3:Kept noneB wr w3:=(Kept.refl noneB wr).grown hgrow (fun k h => by cases h)
    have hb3:Below wr.heap.size wr w3:=hk3.below (Nat.le_refl _) (fun _ h => h.elim)
    have HI0:Hid (IoI w w3 w.heap.size wr.heap.size xs os k 0 (List.replicate k zeroQ)):=Lib.hid
     { bel:=HB0.out.trans (hb3.mono HB0.out.size)
       map:=by rw [leftP_zero];exact HMP.out.kept hk3 (fun h => h.elim)
       new:=Nat.le_refl _
       row:=hrw
       gnew:=HB0.out.size
       len:=by simp
       took:=fun i hi => by omega }
    obtain ⟨g,hg⟩:∃ g,wr.heap.size=g:=⟨_,rfl⟩;rw [hg] at HI0 ⊢;clear hmade hgrow hrw hk3 hb3 HMP HB0 hg
    go_wp2_with fail
    go_loopw [10,11,12,13,36] (fun _ _ _ _ i wr => ∃ (j:Nat) (zs:List NP),j≤k∧i=.int .i64 (j:Int)∧Hid (IoI w wr w.heap.size g xs os k j zs)) (fun _ _ _ _ i _ => k - (RowKit.intOf i).toNat)
    case atStart => exact ⟨0,_,Nat.zero_le _,rfl,HI0⟩
    case round =>
     obtain ⟨j,zs,hj,rfl,hI⟩:=hrel
     by_cases hlt:j < k
     ·obtain ⟨b3,o3,rfl,hb3,hc3⟩:=(HO.out.below hI.out.bel).2 (by omega)
      have z0:=hc3 j hlt;obtain ⟨x,hx⟩:∃ x,os.getD j []=x:=⟨_,rfl⟩;rw [hx] at z0;have HX:=Lib.hid hx;have lk:=hI.out.map.look_ok (P:=Tryd.prog) Tryd.underlying68 Tryd.underlying9 nodeZero x;obtain ⟨fo,hfo⟩:∃ fo,leftP xs os j x=fo:=⟨_,rfl⟩;have HFO:=Lib.hid hfo;unfold nodesV at lk;rw [hfo] at lk;have hltz:(j:Int) < (k:Int):=by omega
      clear hx hfo hc3 hb3
      cases fo with
      | none =>
        have lk2:(Instr.lookup 68 (.map (some w.heap.size)) (.string (str x)) true).run Tryd.prog wr=.ok (.tuple #[.agg #[.string ⟨#[]⟩,.string ⟨#[]⟩,.string ⟨#[]⟩,.int .u8 0,.int .i64 0,.int .i64 0,.int .i64 0,.int .i64 0,.slice none 0 0],.bool false]) wr:=lk;have E:Hid (¬ OrderOf (xs.map NP.m) os):=Lib.hid (not_order HG.out (show j < os.length by rw [HOL.out];exact hlt) (by rw [HX.out];exact HFO.out))
        have HB:=Lib.hid hI.out.bel;clear lk
        go_wp2
        go_ret2
        exact .inr ⟨rfl,E.out,HB.out.alloc HB.out.size _⟩
      | some y =>
        have lk2:(Instr.lookup 68 (.map (some w.heap.size)) (.string (str x)) true).run Tryd.prog wr=.ok (.tuple #[.agg #[.string (str y.m.path),.string (str y.m.target),.string (str y.m.leader),.int .u8 (y.m.kind.toNat:Int),.int .i64 y.m.mode,.int .i64 y.m.uid,.int .i64 y.m.gid,.int .i64 y.m.time,.slice y.p y.m.body.length y.c],.bool true]) wr:=lk;obtain ⟨W5,hW5⟩:∃ W5,wr.alloc (.cells y.cs 45)=W5:=⟨_,rfl⟩;have hB5:Below wr.heap.size wr W5:=by rw [← hW5];exact (Below.refl _ _).alloc (Nat.le_refl _) _
        have hBN:Blk W5 wr.heap.size 45 y.cs:=by rw [← hW5];exact Blk.new wr _ _
        have HI5:=Lib.hid (hI.out.below hB5);have z1:=hBN.cell 0;have z2:=hBN.cell 1;have z3:=hBN.cell 2;have z4:=hBN.cell 3;have z5:=hBN.cell 4;have z6:=hBN.cell 5;have z7:=hBN.cell 6;have z8:=hBN.cell 7;have z9:=hBN.cell 8;unfold NP.cs nodC at hW5;simp only [NP.cs,nodC,List.getElem?_toArray,List.getElem?_cons_zero,List.getElem?_cons_succ] at z1 z2 z3 z4 z5 z6 z7 z8 z9;have hjz:j < zs.length:=by rw [HI5.out.len];exact hlt
        obtain ⟨r0,r1,r2,r3,r4,r5,r6,r7,r8⟩:=HI5.out.row.cells9 hjz;have f0:=Blk.frozen HI5.out.row (j * 9);have f1:=Blk.frozen HI5.out.row (j * 9+1);have f2:=Blk.frozen HI5.out.row (j * 9+2);have f3:=Blk.frozen HI5.out.row (j * 9+3);have f4:=Blk.frozen HI5.out.row (j * 9+4);have f5:=Blk.frozen HI5.out.row (j * 9+5);have f6:=Blk.frozen HI5.out.row (j * 9+6);have f7:=Blk.frozen HI5.out.row (j * 9+7);have f8:=Blk.frozen HI5.out.row (j * 9+8);have HJZ:=Lib.hid hjz;clear lk hjz hB5 hBN
        go_upto_region 14 with fail
        clear hW5 lk2 z0
        go_upto_region 17 with fail
        obtain ⟨W6,hW6⟩:∃ W6,(((((((((W5.setCell ⟨g,j * 9,none⟩ (.string (str y.m.path))).setCell ⟨g,j * 9+1,none⟩ (.string (str y.m.target))).setCell ⟨g,j * 9+2,none⟩ (.string (str y.m.leader))).setCell ⟨g,j * 9+3,none⟩ (.int .u8 (y.m.kind.toNat:Int))).setCell ⟨g,j * 9+4,none⟩ (.int .i64 y.m.mode)).setCell ⟨g,j * 9+5,none⟩ (.int .i64 y.m.uid)).setCell ⟨g,j * 9+6,none⟩ (.int .i64 y.m.gid)).setCell ⟨g,j * 9+7,none⟩ (.int .i64 y.m.time)).setCell ⟨g,j * 9+8,none⟩ (.slice y.p y.m.body.length y.c))=W6:=⟨_,rfl⟩;have hk6:Kept (oneB g) W5 W6:=by rw [← hW6];exact rw_kept (S:=oneB g) rfl _ _ _ _ _ _ _ _ _
        have hr6:Rw W6 g (zs.set j y):=by rw [← hW6];exact HI5.out.row.set HJZ.out y
        have hgM:g≠w.heap.size:=blk_not_map HI5.out.row HI5.out.map;have hm6:MapK strK W6 w.heap.size (nodesV (leftP xs os j)):=HI5.out.map.kept hk6 (fun e => hgM e.symm)
        rw [hW6];have HK6:=Lib.hid hk6;have HR6:=Lib.hid hr6;have HM6:=Lib.hid hm6;have HGM:=Lib.hid hgM;clear hW6 hk6 hr6 hm6 hgM r0 r1 r2 r3 r4 r5 r6 r7 r8 f0 f1 f2 f3 f4 f5 f6 f7 f8 z1 z2 z3 z4 z5 z6 z7 z8 z9
        go_wp2_with (at_delete;refine wpList_delK (K:=strK) rfl (.tmp 53) (.tmp 54) 68 9 rfl 45 Tryd.underlying68 Tryd.underlying9 w.heap.size HM6.out rfl x rfl ?_)
        intro w7 hm7 hk7 hs7
        have HN:Hid (IoI w w7 w.heap.size g xs os k (j+1) (zs.set j y)):=by
         have hb6:Below w.heap.size w W6:=HI5.out.bel.trans (HK6.out.below HI5.out.bel.size (fun b hb => by rw [show b=g from hb];exact HI5.out.gnew))
         refine Lib.hid ⟨hb6.trans (hk7.out.below hb6.size (fun b hb => by rw [show b=w.heap.size from hb];exact Nat.le_refl _)),?_,Nat.le_refl _,Blk.keptS HR6.out hk7.out HGM.out,HI5.out.gnew,by rw [List.length_set];exact HI5.out.len,took_set HI5.out.took HJZ.out (by rw [HX.out];exact HFO.out)⟩
         have e:nodesV (leftP xs os (j+1))=fun z => if z=x then none else nodesV (leftP xs os j) z:=by
          funext z
          unfold nodesV;rw [leftP_succ (show j < os.length by rw [HOL.out];exact hlt),HX.out]
          by_cases h:z=x<;>simp [h]
         rw [e];exact hm7.out
        clear hm7 hk7 hs7
        go_wp2
        go_roundw
        case rel => exact ⟨j+1,_,by omega,by go_num,HN⟩
        case measure => simp [RowKit.intOf];omega
     ·obtain rfl:j=k:=by omega
      have hks:¬ ((j:Int) < (j:Int)):=by omega
      have hord:OrderOf (xs.map NP.m) os:=took_order HG.out (by rw [HOL.out,HL.out]) (by rw [HOL.out];exact hI.out.took)
      have hnod:NodesAt wr (some ⟨g,0,none⟩) j zs:=by
       have h1:=hI.out.row.nodes (fun y hy => by
        obtain ⟨i,hi,rfl⟩:=List.mem_iff_getElem.1 hy;have h2:=took_find hI.out.took (show i < j by rw [← hI.out.len];exact hi)
        rw [getQ_eq hi] at h2
        exact (HM.out.below hI.out.bel).2.1 _ (List.mem_of_find?_eq_some h2))
       rw [hI.out.len] at h1;exact h1
      have HF:=Lib.hid (And.intro hord hnod);clear hord hnod
      go_wp2
      go_ret2
      exact .inl ⟨_,zs,rfl,hI.out.took,hI.out.len,HOL.out,HF.out.2,HF.out.1,hI.out.bel⟩
 ·have E:Hid (¬ OrderOf (xs.map NP.m) os):=Lib.hid (fun h => hmn (by
   have h1:=((order_iff HG.out os).1 h).1;rw [List.length_map,HL.out,HOL.out] at h1
   exact h1))
  have hne:¬ ((m:Int)=(n:Int)):=by omega
  go_wp2
  go_ret2
  exact .inr ⟨rfl,E.out,Below.refl _ _⟩
end Go.Proofs.YtfhelebejclalaaDoor.Lnk
end
section
namespace Go.Proofs.YtfhelebejclalaaDoor.Lnk
open Mem Tre
set_option linter.unusedVariables false
def kindK (ms:List MemV) (k:Nat) (p:List UInt8):Option UInt8:=((ms.take k).find? fun m => decide (m.path=p)).map (·.kind)
def SndK (ms:List MemV) (k:Nat):Prop:=∀ i,i < k → soundAt ms i=true
section
variable {ms:List MemV} {k:Nat}
theorem getZ_eq (hk:k < ms.length):ms.getD k zeroMv=ms[k]:=by rw [List.getD,List.getElem?_eq_getElem hk];rfl
theorem good_kind {m:MemV} (h:goodD m=true):m.kind≠0:=fun e => by
 unfold goodD at h;rw [e] at h;simp at h
theorem kindK_none {p:List UInt8}:kindK ms k p=none ↔ ∀ i,i < k → i < ms.length → (ms.getD i zeroMv).path≠p:=by
 unfold kindK;rw [Option.map_eq_none_iff,List.find?_eq_none];constructor
 ·intro h i hi hl
  have:=h ms[i] (List.mem_take_iff_getElem.2 ⟨i,by omega,rfl⟩)
  rw [getZ_eq hl]
  simpa using this
 ·intro h x hx
  obtain ⟨i,hi,rfl⟩:=List.mem_take_iff_getElem.1 hx;have:=h i (by omega) (by omega)
  rw [getZ_eq (by omega)] at this
  simpa using this
theorem snd_apart (hs:SndK ms k) {i j:Nat} (hij:i < j) (hj:j < k):(ms.getD i zeroMv).path≠(ms.getD j zeroMv).path:=fun e => by
 have h:=hs j hj;unfold soundAt at h
 dsimp only at h
 rw [Bool.and_eq_true,List.all_eq_true] at h;have:=h.1 i (List.mem_range.2 hij);rw [decide_eq_true e] at this
 cases this
theorem snd_good (hs:SndK ms k) {i:Nat} (hi:i < k):goodD (ms.getD i zeroMv)=true:=by
 have h:=hs i hi;unfold soundAt at h
 dsimp only at h
 rw [Bool.and_eq_true,Bool.and_eq_true] at h;exact h.2.2
theorem kindK_at (hs:SndK ms k) (hk:k≤ms.length) {i:Nat} (hi:i < k):kindK ms k (ms.getD i zeroMv).path=some (ms.getD i zeroMv).kind:=by
 unfold kindK;rw [Option.map_eq_some_iff];refine ⟨ms.getD i zeroMv,?_,rfl⟩;rw [List.find?_eq_some_iff_getElem];refine ⟨decide_eq_true rfl,i,by rw [List.length_take];omega,by rw [List.getElem_take,getZ_eq (by omega)],fun j hj => ?_⟩
 rw [List.getElem_take];have:=snd_apart hs hj hi;rw [getZ_eq (show j < ms.length by omega)] at this
 simpa using this
theorem kindK_is (hs:SndK ms k) (hk:k≤ms.length) {p:List UInt8} {b:UInt8} (h:kindK ms k p=some b):∃ i,i < k∧(ms.getD i zeroMv).path=p∧(ms.getD i zeroMv).kind=b:=by
 have h':=h;unfold kindK at h;obtain ⟨m,hm,hb⟩:=Option.map_eq_some_iff.1 h;have h1:=List.mem_of_find?_eq_some hm;have h2:=List.find?_some hm;obtain ⟨i,hi,rfl⟩:=List.mem_take_iff_getElem.1 h1;refine ⟨i,by omega,?_,?_⟩
 ·rw [getZ_eq (by omega)];simpa using h2
 ·rw [getZ_eq (by omega)];exact hb
def valK (ms:List MemV) (k:Nat) (p:List UInt8):UInt8:=(kindK ms k p).getD 0
theorem valK_zero (hs:SndK ms k) (hk:k≤ms.length) (p:List UInt8):valK ms k p=0 ↔ kindK ms k p=none:=by
 unfold valK
 cases h:kindK ms k p with
 | none => simp
 | some b =>
   obtain ⟨i,hi,_,rfl⟩:=kindK_is hs hk h
   simpa using good_kind (snd_good hs hi)
theorem snd_step (hs:SndK ms k) (hk:k < ms.length) :
 soundAt ms k=(goodD (ms.getD k zeroMv) && (decide (valK ms k (ms.getD k zeroMv).path=0) && (!decide ((ms.getD k zeroMv).kind=49) || decide (valK ms k (ms.getD k zeroMv).target=48)))):=by
 have e1:((List.range k).all fun i => !decide ((ms.getD i zeroMv).path=(ms.getD k zeroMv).path))=decide (valK ms k (ms.getD k zeroMv).path=0):=by
  rw [Bool.eq_iff_iff,List.all_eq_true,decide_eq_true_eq,valK_zero hs (by omega),kindK_none]
  constructor
  ·intro h i hi _
   have:=h i (List.mem_range.2 hi)
   simpa using this
  ·intro h i hi
   have:=h i (List.mem_range.1 hi) (by have:=List.mem_range.1 hi;omega)
   simpa using this
 have e2:((List.range k).any fun i => decide ((ms.getD i zeroMv).path=(ms.getD k zeroMv).target) && decide ((ms.getD i zeroMv).kind=48))=decide (valK ms k (ms.getD k zeroMv).target=48):=by
  rw [Bool.eq_iff_iff,List.any_eq_true,decide_eq_true_eq];constructor
  ·rintro ⟨i,hi,h⟩
   rw [Bool.and_eq_true,decide_eq_true_eq,decide_eq_true_eq] at h;have:=kindK_at hs (by omega) (List.mem_range.1 hi)
   rw [h.1,h.2] at this;unfold valK;rw [this];rfl
  ·intro h
   unfold valK at h
   cases hf:kindK ms k (ms.getD k zeroMv).target with
   | none => rw [hf] at h;exact absurd h (by decide)
   | some b =>
     rw [hf] at h;obtain ⟨i,hi,h1,h2⟩:=kindK_is hs (by omega) hf
     exact ⟨i,List.mem_range.2 hi,by rw [h1,h2,show b=48 from h];simp⟩
 unfold soundAt
 dsimp only
 rw [e1,e2]
 cases goodD (ms.getD k zeroMv)<;>cases decide (valK ms k (ms.getD k zeroMv).path=0)<;>cases decide ((ms.getD k zeroMv).kind=49)<;>cases decide (valK ms k (ms.getD k zeroMv).target=48)<;>rfl
theorem snd_succ (hs:SndK ms k) (h:soundAt ms k=true):SndK ms (k+1):=fun i hi => by
 rcases Nat.lt_succ_iff_lt_or_eq.1 hi with h1 | rfl
 ·exact hs i h1
 ·exact h
theorem kindK_succ (hs:SndK ms (k+1)) (hk:k < ms.length):kindK ms (k+1)=fun p => if p=(ms.getD k zeroMv).path then some (ms.getD k zeroMv).kind else kindK ms k p:=by
 funext p
 by_cases hp:p=(ms.getD k zeroMv).path
 ·rw [if_pos hp,hp]
  exact kindK_at hs (by omega) (Nat.lt_succ_self k)
 ·rw [if_neg hp]
  unfold kindK;rw [List.take_succ_eq_append_getElem hk,List.find?_append,← getZ_eq hk]
  have:List.find? (fun m => decide (m.path=p)) [ms.getD k zeroMv]=none:=by
   rw [List.find?_cons,decide_eq_false (fun e => hp e.symm)]
   rfl
  rw [this,Option.or_none]
theorem snd_all (h:SndK ms ms.length):soundD ms=true:=by
 unfold soundD;rw [List.all_eq_true];exact fun i hi => h i (List.mem_range.1 hi)
theorem snd_not (hk:k < ms.length) (h:soundAt ms k=false):soundD ms=false:=by
 unfold soundD;rw [List.all_eq_false];exact ⟨k,List.mem_range.2 hk,by rw [h];simp⟩
end
end Go.Proofs.YtfhelebejclalaaDoor.Lnk
end
section
namespace Go.Proofs.YtfhelebejclalaaDoor.Lnk
open Go.ChangeShapes Go.WideShapes Go.ChangeAt Go.RowKit Base Byt Txt Bk Mk Mem Tre Go.Lib
set_option linter.unusedVariables false
set_option maxRecDepth 100000
def kindsV (f:List UInt8 → Option UInt8):List UInt8 → Option Value:=fun x => (f x).map fun b => .int .u8 (b.toNat:Int)
theorem kinds_look (ms:List MemV) (k:Nat) (p:List UInt8):(kindsV (kindK ms k) p).getD (.int .u8 0)=.int .u8 ((valK ms k p).toNat:Int):=by
 unfold kindsV valK
 cases kindK ms k p<;>rfl
structure SdI (w wr:World) (M:Nat) (ms:List MemV) (k:Nat):Prop where
 bel:Below w.heap.size w wr
 map:MapK strK wr M (kindsV (kindK ms k))
 new:w.heap.size≤M
 ok:SndK ms k
theorem SdI.below {w wr w':World} {M k:Nat} {ms:List MemV} (h:SdI w wr M ms k) (hb:Below wr.heap.size wr w'):SdI w w' M ms k:=
 ⟨h.bel.trans (hb.mono h.bel.size),h.map.kept (Kept.of_below hb noneB) (fun h => h.elim),h.new,h.ok⟩
set_option maxHeartbeats 8000000 in
theorem lsound_any (w:World) (p:Option Addr) (n c:Nat) (xs:List MP) (hN:MembersOk w p n c xs) (hT:Path.Tabs w) :
 Calls Tryd.prog 17 #[.slice p n c] w fun e w' => e=.returned (.bool (soundD (xs.map MP.m)))∧Below w.heap.size w w':=by
 have hmm:=@run_makeMap Tryd.prog;have HM:=Lib.hid hN.at_;have HL:=Lib.hid hN.at_.1;have HR:=Lib.hid hN.room;have HT:=Lib.hid hT;have hfew:=hN.few;obtain ⟨ms,hms⟩:∃ ms,xs.map MP.m=ms:=⟨_,rfl⟩;have HMS:=Lib.hid hms;have HML:Hid (ms.length=n):=Lib.hid (by rw [← hms,List.length_map];exact hN.at_.1)
 rw [hms];clear hN hms hT;obtain ⟨w1,hw1⟩:∃ w1,w.alloc (.map #[] 0)=w1:=⟨_,rfl⟩
 have HJ0:Hid (SdI w w1 w.heap.size ms 0):=Lib.hid
  { bel:=by rw [← hw1];exact (Below.refl _ _).alloc (Nat.le_refl _) _
    map:=by
     have e:kindsV (kindK ms 0)=fun _ => none:=by funext l;rfl
     rw [e,← hw1];exact mapK_made strK w
    new:=Nat.le_refl _
    ok:=fun i hi => by omega }
 go_enter Tryd.func17,Tryd.ntmps17
 go_upto_region 2 with fail
 clear hw1 hmm
 go_wp2_with fail
 go_loopw [5,9] (fun _ i wr => ∃ (k:Nat),k≤n∧i=.int .i64 (k:Int)∧Hid (SdI w wr w.heap.size ms k)) (fun _ i _ => n - (RowKit.intOf i).toNat)
 case atStart => exact ⟨0,Nat.zero_le _,rfl,HJ0⟩
 case round =>
  obtain ⟨k,hk,rfl,hJ⟩:=hrel
  by_cases hlt:k < n
  ·obtain ⟨b1,o1,rfl,hb1,hBd,hc⟩:=(HM.out.below hJ.out.bel).cells8 hlt
   have hG0:=getM_map xs k;rw [HMS.out] at hG0;have hrm:=HR.out _ (getP_mem xs k (by rw [HL.out];exact hlt))
   obtain ⟨y,hy⟩:∃ y,xs.getD k zeroP=y:=⟨_,rfl⟩;rw [hy] at hc hG0 hBd hrm;obtain ⟨c0,c1,c2,c3,c4,c5,c6,c7⟩:=hc;obtain ⟨W5,hW5⟩:∃ W5,wr.alloc (.cells y.cs 50)=W5:=⟨_,rfl⟩;have hB5:Below wr.heap.size wr W5:=by rw [← hW5];exact (Below.refl _ _).alloc (Nat.le_refl _) _
   have hBN:Blk W5 wr.heap.size 50 y.cs:=by rw [← hW5];exact Blk.new wr _ _
   have hJ5:=hJ.out.below hB5;have HJ5:=Lib.hid hJ5;have HBN:=Lib.hid hBN;have HG0:=Lib.hid hG0;have hGD:=memGood_any y.m y.p y.c W5 hrm.1 hrm.2.1 (HT.out.below hJ5.bel);obtain ⟨r,hr⟩:∃ r,goodD y.m=r:=⟨_,rfl⟩;rw [hr] at hGD;have HR0:=Lib.hid hr;have z0:=hBN.cell 0;have z1:=hBN.cell 1;have z2:=hBN.cell 2;have z3:=hBN.cell 3;have z4:=hBN.cell 4;have z5:=hBN.cell 5;have z6:=hBN.cell 6;have z7:=hBN.cell 7;simp only [MP.cs,memC,List.getElem?_toArray,List.getElem?_cons_zero,List.getElem?_cons_succ] at z0 z1 z2 z3 z4 z5 z6 z7;have ek:=kind_ne1 y.m.kind 49 49 rfl
   obtain ⟨kn,hkn⟩:∃ kn:Int,(y.m.kind.toNat:Int)=kn:=⟨_,rfl⟩;have HKN:=Lib.hid hkn;unfold memC at hGD;unfold MP.cs memC at hW5;rw [hkn] at hW5 c2 z2 ek hGD;have HGD:=Lib.hid hGD;have hltz:(k:Int) < (n:Int):=by omega
   clear hy hb1 hBd hBN hB5 hkn hG0 hrm hr hJ5 hGD
   go_upto_region 5 with fail
   clear hW5 c0 c1 c2 c3 c4 c5 c6 c7
   go_wp2_with fail
   refine HGD.out.mono ?_
   rintro e w6 ⟨rfl,hb6⟩;have hJ6:=HJ5.out.below hb6;have hB6:=HBN.out.below hb6 HBN.out.lt;have HJ6:=Lib.hid hJ6;have HB6:=Lib.hid hB6;clear z0 z1 z2 z3 z4 z5 z6 z7 hb6 HGD;have y0:w6.cell? ⟨wr.heap.size,0,none⟩=some (.string (str y.m.path)):=hB6.cell 0;have y1:w6.cell? ⟨wr.heap.size,1,none⟩=some (.string (str y.m.target)):=hB6.cell 1;have y2:w6.cell? ⟨wr.heap.size,2,none⟩=some (.int .u8 kn):=by rw [← HKN.out];exact hB6.cell 2
   have lk0:=hJ6.map.look (P:=Tryd.prog) Tryd.underlying62 Tryd.underlying9 (z:=.int .u8 0) (fun w => Tryd.zeroValue5 w) y.m.path
   have lk1:=hJ6.map.look (P:=Tryd.prog) Tryd.underlying62 Tryd.underlying9 (z:=.int .u8 0) (fun w => Tryd.zeroValue5 w) y.m.target
   rw [kinds_look] at lk0 lk1;obtain ⟨a0,ha0⟩:∃ a,valK ms k y.m.path=a:=⟨_,rfl⟩;obtain ⟨a1,ha1⟩:∃ a,valK ms k y.m.target=a:=⟨_,rfl⟩;have e0:=kind_nq1 a0 0 0 rfl;have e1:=kind_nq1 a1 48 48 rfl;obtain ⟨v0,hv0⟩:∃ v:Int,(a0.toNat:Int)=v:=⟨_,rfl⟩;obtain ⟨v1,hv1⟩:∃ v:Int,(a1.toNat:Int)=v:=⟨_,rfl⟩
   have STEP:Hid (soundAt ms k=(r && (decide (a0=0) && (!decide (y.m.kind=49) || decide (a1=48))))):=Lib.hid (by
    have h:=snd_step HJ6.out.ok (show k < ms.length by rw [HML.out];exact hlt)
    rw [HG0.out,ha0,ha1,HR0.out] at h
    exact h)
   rw [ha0,hv0] at lk0;rw [ha1,hv1] at lk1;rw [hv0] at e0;rw [hv1] at e1;have l0:(Instr.lookup 62 (.map (some w.heap.size)) (.string (str y.m.path)) false).run Tryd.prog w6=.ok (.int .u8 v0) w6:=lk0;have l1:(Instr.lookup 62 (.map (some w.heap.size)) (.string (str y.m.target)) false).run Tryd.prog w6=.ok (.int .u8 v1) w6:=lk1;clear ha0 ha1 hv0 hv1 lk0 lk1 hJ6 hB6;have KL:Hid (k < ms.length):=Lib.hid (by rw [HML.out];exact hlt)
   cases r with
   | false =>
     have E:Hid (soundD ms=false):=Lib.hid (snd_not KL.out (by rw [STEP.out];rfl))
     go_wp2
     go_ret
     exact ⟨by rw [E.out];rfl,HJ6.out.bel⟩
   | true =>
     by_cases hv:a0=0
     ·rw [decide_eq_true hv,Bool.not_true] at e0
      by_cases h49:y.m.kind=49
      ·rw [decide_eq_true h49] at ek
       by_cases h48:a1=48
       ·rw [decide_eq_true h48,Bool.not_true] at e1
        have OK:Hid (soundAt ms k=true):=Lib.hid (by rw [STEP.out,decide_eq_true hv,decide_eq_true h48];simp)
        clear hv h49 h48
        go_wp2_with (at_mapUpdate;refine wpList_putK (K:=strK) rfl (.tmp 33) (.tmp 35) (.tmp 37) rfl Tryd.underlying62 Tryd.underlying9 w.heap.size HJ6.out.map rfl y.m.path rfl (.int .u8 kn) rfl ?_)
        intro w7 hm7 hk7 hs7
        have HN:Hid (SdI w w7 w.heap.size ms (k+1)):=by
         have hs:=snd_succ HJ6.out.ok OK.out;refine Lib.hid ⟨HJ6.out.bel.trans (hk7.out.below HJ6.out.bel.size (fun b hb => by rw [show b=w.heap.size from hb];exact Nat.le_refl _)),?_,Nat.le_refl _,hs⟩
         have e:kindsV (kindK ms (k+1))=fun z => if z=y.m.path then some (.int .u8 kn) else kindsV (kindK ms k) z:=by
          funext z
          unfold kindsV;rw [kindK_succ hs KL.out,HG0.out,← HKN.out]
          by_cases h:z=y.m.path<;>simp [h]
         rw [e];exact hm7.out
        clear hm7 hk7 hs7
        go_wp2
        go_roundw
        case rel => exact ⟨k+1,by omega,by go_num,HN⟩
        case measure => simp [RowKit.intOf];omega
       ·rw [decide_eq_false h48,Bool.not_false] at e1
        have E:Hid (soundD ms=false):=Lib.hid (snd_not KL.out (by rw [STEP.out,decide_eq_true hv,decide_eq_true h49,decide_eq_false h48];rfl))
        clear hv h49 h48
        go_wp2
        go_ret
        exact ⟨by rw [E.out];rfl,HJ6.out.bel⟩
      ·rw [decide_eq_false h49] at ek
       have OK:Hid (soundAt ms k=true):=Lib.hid (by rw [STEP.out,decide_eq_true hv,decide_eq_false h49];simp)
       clear hv h49
       go_wp2_with (at_mapUpdate;refine wpList_putK (K:=strK) rfl (.tmp 33) (.tmp 35) (.tmp 37) rfl Tryd.underlying62 Tryd.underlying9 w.heap.size HJ6.out.map rfl y.m.path rfl (.int .u8 kn) rfl ?_)
       intro w7 hm7 hk7 hs7
       have HN:Hid (SdI w w7 w.heap.size ms (k+1)):=by
        have hs:=snd_succ HJ6.out.ok OK.out;refine Lib.hid ⟨HJ6.out.bel.trans (hk7.out.below HJ6.out.bel.size (fun b hb => by rw [show b=w.heap.size from hb];exact Nat.le_refl _)),?_,Nat.le_refl _,hs⟩
        have e:kindsV (kindK ms (k+1))=fun z => if z=y.m.path then some (.int .u8 kn) else kindsV (kindK ms k) z:=by
         funext z
         unfold kindsV;rw [kindK_succ hs KL.out,HG0.out,← HKN.out]
         by_cases h:z=y.m.path<;>simp [h]
        rw [e];exact hm7.out
       clear hm7 hk7 hs7
       go_wp2
       go_roundw
       case rel => exact ⟨k+1,by omega,by go_num,HN⟩
       case measure => simp [RowKit.intOf];omega
     ·rw [decide_eq_false hv,Bool.not_false] at e0
      have E:Hid (soundD ms=false):=Lib.hid (snd_not KL.out (by rw [STEP.out,decide_eq_false hv];rfl))
      clear hv
      go_wp2
      go_ret
      exact ⟨by rw [E.out];rfl,HJ6.out.bel⟩
  ·obtain rfl:k=n:=by omega
   have hks:¬ ((k:Int) < (k:Int)):=by omega
   have E:Hid (soundD ms=true):=Lib.hid (snd_all (by rw [HML.out];exact hJ.out.ok))
   go_wp2
   go_ret
   exact ⟨by rw [E.out];rfl,hJ.out.bel⟩
end Go.Proofs.YtfhelebejclalaaDoor.Lnk
end
section
namespace Go.Proofs.YtfhelebejclalaaDoor.Lnk
open Go.ChangeShapes Go.WideShapes Go.ChangeAt Go.RowKit Base Byt Txt Bk Mk Mem Tre Go.Lib
set_option linter.unusedVariables false
set_option maxRecDepth 100000
def nilS:Value:=.slice none 0 0
theorem own_blkE {w:World} {base:Nat} {e:TypeId} {v:Value} {n:Nat} {xs:List Value} (h:w.ownsRow base e 1 v n xs) {g:Nat} (hg:v.ownBlock=some g):∃ cur,Blk w g e cur:=by
 rcases h.2 with ⟨rfl,_⟩ | ⟨g',cap,cur,rfl,_,hb,_⟩
 ·cases hg
 ·cases hg
  exact ⟨cur,hb⟩
theorem blk_type {w:World} {b:Nat} {t t':TypeId} {cs cs':Array Value} (h:Blk w b t cs) (h':Blk w b t' cs'):t=t':=by
 have h1:w.heap[b]? = some (.cells cs t (0,0)):=h;have h2:w.heap[b]? = some (.cells cs' t' (0,0)):=h';rw [h1] at h2
 cases h2
 rfl
theorem own_form {w:World} {base:Nat} {e:TypeId} {v:Value} {n:Nat} {xs:List Value} (h:w.ownsRow base e 1 v n xs):∃ p c,v=.slice p n c∧n≤c∧c≤maxLen∧(0 < n → ∃ g,p=some ⟨g,0,none⟩∧base≤g∧g < w.heap.size ∧ ∀ i,i < n → w.cell? ⟨g,i,none⟩=xs[i]? ∧ w.frozen? ⟨g,i,none⟩=false):=by
 have h':=h;rcases h.2 with ⟨rfl,rfl⟩ | ⟨g,cap,cur,rfl,hb,hg,hn,hc,hs,ht⟩
 ·exact ⟨none,0,rfl,Nat.le_refl _,by decide,fun h => by omega⟩
 ·exact ⟨some ⟨g,0,none⟩,cap,rfl,hn,hc,fun _ => ⟨g,rfl,hb,(Array.getElem?_eq_some_iff.1 hg).1,fun i hi => ⟨h'.cellAt i (by omega),h'.frozenAt i⟩⟩⟩
theorem getV_at {vs:List Value} {i:Nat} (hi:i < vs.length):vs[i]? = some (vs.getD i nilS):=by
 rw [List.getD,List.getElem?_eq_getElem hi];rfl
theorem getSetV (vs:List Value) (k i:Nat) (y:Value) (hk:k < vs.length):(vs.set k y).getD i nilS=if i=k then y else vs.getD i nilS:=by
 rw [List.getD,List.getD,List.getElem?_set]
 by_cases h:k=i
 ·subst h
  simp [hk]
 ·rw [if_neg h,if_neg (fun e => h e.symm)]
theorem getSetC (cc:List (List (List UInt8))) (k i:Nat) (y:List (List UInt8)) (hk:k < cc.length):(cc.set k y).getD i []=if i=k then y else cc.getD i []:=by
 rw [List.getD,List.getD,List.getElem?_set]
 by_cases h:k=i
 ·subst h
  simp [hk]
 ·rw [if_neg h,if_neg (fun e => h e.symm)]
structure ClJ (w wr:World) (M:Nat) (f:List UInt8 → Option Nat) (cc:List (List (List UInt8))) (v:Value) (vs:List Value):Prop where
 bel:Below w.heap.size w wr
 map:MapK strK wr M (numsK f)
 new:w.heap.size≤M
 row:wr.ownsRow w.heap.size 26 1 v vs.length vs
 len:vs.length=cc.length
 sub:∀ i,i < vs.length → wr.ownsRow w.heap.size 9 1 (vs.getD i nilS) (cc.getD i []).length (flatS (cc.getD i []))
 apart:∀ i j,i < vs.length → j < vs.length → i≠j → ∀ b,(vs.getD i nilS).ownBlock=some b → (vs.getD j nilS).ownBlock≠some b
section
variable {w wr w':World} {M:Nat} {f f':List UInt8 → Option Nat} {cc:List (List (List UInt8))} {v v':Value} {vs:List Value}
theorem own_kept {S:Nat → Prop} {base:Nat} {e:TypeId} {u:Value} {n:Nat} {xs:List Value} (h:wr.ownsRow base e 1 u n xs) (hk:Kept S wr w') (hn:∀ b cur,u.ownBlock=some b → Blk wr b e cur → ¬ S b):w'.ownsRow base e 1 u n xs:=
 ownsRow_kept h hk fun b hb => by
  obtain ⟨cur,hc⟩:=own_blkE h hb;exact hn b cur hb hc
theorem str_ne_sl:(9:TypeId)≠26:=by decide
theorem ClJ.below (h:ClJ w wr M f cc v vs) (hb:Below wr.heap.size wr w'):ClJ w w' M f cc v vs where
 bel:=h.bel.trans (hb.mono h.bel.size)
 map:=h.map.kept (Kept.of_below hb noneB) (fun h => h.elim)
 new:=h.new
 row:=own_kept h.row (Kept.of_below hb noneB) (fun _ _ _ _ h => h.elim)
 len:=h.len
 sub:=fun i hi => own_kept (h.sub i hi) (Kept.of_below hb noneB) (fun _ _ _ _ h => h.elim)
 apart:=h.apart
theorem ClJ.put (h:ClJ w wr M f cc v vs) (hk:Kept (oneB M) wr w') (hm:MapK strK w' M (numsK f')):ClJ w w' M f' cc v vs where
 bel:=h.bel.trans (hk.below h.bel.size (fun b hb => by rw [show b=M from hb];exact h.new))
 map:=hm
 new:=h.new
 row:=own_kept h.row hk (fun b cur _ hc e => blk_not_map hc h.map e)
 len:=h.len
 sub:=fun i hi => own_kept (h.sub i hi) hk (fun b cur _ hc e => blk_not_map hc h.map e)
 apart:=h.apart
theorem ClJ.push (h:ClJ w wr M f cc v vs) (hr:w'.ownsRow w.heap.size 26 1 v' (vs++[nilS]).length (vs++[nilS])) (hg:wr.grownBy w' v.ownBlock):ClJ w w' M f (cc++[[]]) v' (vs++[nilS]):=by
 have hk:Kept (fun b => v.ownBlock=some b) wr w':=(Kept.refl _ wr).grown hg (fun k hk => .inr hk)
 have get:∀ i,i < (vs++[nilS]).length → (vs++[nilS]).getD i nilS=if i < vs.length then vs.getD i nilS else nilS:=fun i hi => by
  by_cases h1:i < vs.length
  ·rw [if_pos h1,List.getD,List.getD,List.getElem?_append_left h1]
  ·have:i=vs.length:=by rw [List.length_append,List.length_singleton] at hi;omega
   rw [if_neg h1,this,List.getD,List.getElem?_concat_length];rfl
 refine ⟨h.bel.trans (hk.below h.bel.size (fun b hb => (h.row.lt b hb).1)),h.map.kept hk (fun e => ?_),h.new,hr,by rw [List.length_append,List.length_append,h.len];rfl,fun i hi => ?_,fun i j hi hj hij b hb => ?_⟩
 ·obtain ⟨cur,hc⟩:=own_blkE h.row e
  exact blk_not_map hc h.map rfl
 ·rw [get i hi]
  by_cases h1:i < vs.length
  ·have e1:(cc++[([]:List (List UInt8))]).getD i []=cc.getD i []:=by rw [List.getD,List.getD,List.getElem?_append_left (by rw [← h.len];exact h1)]
   rw [if_pos h1,e1];refine own_kept (h.sub i h1) hk (fun b cur _ hc e => ?_)
   obtain ⟨cur',hc'⟩:=own_blkE h.row e;exact str_ne_sl (blk_type hc hc')
  ·have:i=cc.length:=by rw [List.length_append,List.length_singleton,h.len] at hi;rw [h.len] at h1;omega
   have e1:(cc++[([]:List (List UInt8))]).getD i []=[]:=by rw [this,List.getD,List.getElem?_concat_length];rfl
   rw [if_neg h1,e1];exact World.ownsRow_nil _ _ _ _
 ·rw [get i hi] at hb
  rw [get j hj]
  by_cases h1:i < vs.length
  ·rw [if_pos h1] at hb
   by_cases h2:j < vs.length
   ·rw [if_pos h2];exact h.apart i j h1 h2 hij b hb
   ·rw [if_neg h2];exact fun e => by cases e
  ·rw [if_neg h1] at hb
   cases hb
theorem ClJ.add {g i cap:Nat} {u:Value} {p:List UInt8} (h:ClJ w wr M f cc (.slice (some ⟨g,0,none⟩) vs.length cap) vs) (hi:i < vs.length)
 (hr:w'.ownsRow w.heap.size 9 1 u (cc.getD i []++[p]).length (flatS (cc.getD i []++[p]))) (hg:wr.grownBy w' (vs.getD i nilS).ownBlock) (hn:NewOr wr (vs.getD i nilS) u) :
 w'.cell? ⟨g,i,none⟩=some (vs.getD i nilS)∧w'.frozen? ⟨g,i,none⟩=false∧ClJ w (w'.setCell ⟨g,i,none⟩ u) M f (cc.set i (cc.getD i []++[p])) (.slice (some ⟨g,0,none⟩) vs.length cap) (vs.set i u):=by
 have hk:Kept (fun b => (vs.getD i nilS).ownBlock=some b) wr w':=(Kept.refl _ wr).grown hg (fun k hk => .inr hk)
 have hrow:w'.ownsRow w.heap.size 26 1 (.slice (some ⟨g,0,none⟩) vs.length cap) vs.length vs:=own_kept h.row hk (fun b cur _ hc e => by
  obtain ⟨cur',hc'⟩:=own_blkE (h.sub i hi) e
  exact str_ne_sl (blk_type hc' hc))
 obtain ⟨hst,hgr⟩:=hrow.stored i u;have hsg:Kept (oneB g) w' (w'.setCell ⟨g,i,none⟩ u):=(Kept.refl (oneB g) w').setCell (a:=⟨g,i,none⟩) (.inr rfl) u;obtain ⟨curg,hbg⟩:=own_blkE hrow (g:=g) rfl;have hck:i < cc.length:=by rw [← h.len];exact hi
 have hb1:Below w.heap.size w w':=h.bel.trans (hk.below h.bel.size (fun b hb => ((h.sub i hi).lt b hb).1))
 refine ⟨by rw [hrow.cellAt i (by omega),getV_at hi],hrow.frozenAt i,hb1.trans (hsg.below hb1.size (fun b hb => by rw [show b=g from hb];exact (hrow.lt g rfl).1)),?_,h.new,by rw [List.length_set];exact hst,by rw [List.length_set,List.length_set];exact h.len,fun j hj => ?_,fun a j ha hj haj b hb => ?_⟩
 ·refine (h.map.kept hk (fun e => ?_)).kept hsg (fun e => ?_)
  ·obtain ⟨cur,hc⟩:=own_blkE (h.sub i hi) e
   exact blk_not_map hc h.map rfl
  ·have hm1:=h.map.kept hk (fun e => by
    obtain ⟨cur,hc⟩:=own_blkE (h.sub i hi) e
    exact blk_not_map hc h.map rfl)
   exact blk_not_map hbg hm1 (show g=M from (show M=g from e).symm)
 ·rw [List.length_set] at hj
  rw [getSetV vs i j u hi,getSetC cc i j _ hck]
  by_cases hji:j=i
  ·rw [if_pos hji,if_pos hji]
   refine own_kept hr hsg (fun b cur _ hc e => ?_)
   rw [show b=g from e] at hc
   exact str_ne_sl (blk_type hc hbg)
  ·rw [if_neg hji,if_neg hji]
   refine own_kept (own_kept (h.sub j hj) hk (fun b cur hb _ e => h.apart j i hj hi hji b hb e)) hsg (fun b cur _ hc e => ?_)
   rw [show b=g from e] at hc
   exact str_ne_sl (blk_type hc hbg)
 ·rw [List.length_set] at ha hj
  rw [getSetV vs i a u hi] at hb;rw [getSetV vs i j u hi]
  by_cases hai:a=i
  ·rw [if_pos hai] at hb
   rw [if_neg (fun e => haj (by rw [hai,e]))]
   rcases hn b hb with h1 | h1
   ·exact h.apart i j hi hj (fun e => haj (by rw [hai,e])) b h1
   ·intro e
    have:=((h.sub j hj).lt b e).2;omega
  ·rw [if_neg hai] at hb
   by_cases hji:j=i
   ·rw [if_pos hji]
    intro e;rcases hn b e with h1 | h1
    ·exact h.apart a i ha hi hai b hb h1
    ·have:=((h.sub a ha).lt b hb).2
     omega
   ·rw [if_neg hji]
    exact h.apart a j ha hj haj b hb
def slOf (u:Value):Option Addr × Nat:=match u with | .slice p _ c => (p,c) | _ => (none,0)
theorem ClJ.rows (h:ClJ w wr M f cc v vs):∃ q d,v=.slice q cc.length d∧SSAt wr q cc.length cc:=by
 obtain ⟨q,d,rfl,_,_,hc⟩:=own_form h.row;refine ⟨q,d,by rw [h.len],rfl,vs.map slOf,by rw [List.length_map,h.len],fun i hi => ?_,fun h0 => ?_⟩
 ·obtain ⟨p,c,e,_,_,hs⟩:=strs_own (h.sub i (by rw [h.len];exact hi))
  rw [List.getD,List.getElem?_map,getV_at (show i < vs.length by rw [h.len];exact hi),e]
  exact hs
 ·obtain ⟨g,rfl,_,hg,hcell⟩:=hc (by rw [h.len];exact h0)
  refine ⟨g,0,rfl,hg,fun i hi => ?_⟩
  have hiv:i < vs.length:=by rw [h.len];exact hi
  obtain ⟨p,c,e,_⟩:=strs_own (h.sub i hiv);have e2:(vs.map slOf).getD i (none,0)=(p,c):=by rw [List.getD,List.getElem?_map,getV_at hiv,e];rfl
  rw [Nat.zero_add,(hcell i hiv).1,getV_at hiv,e2,e]
end
theorem infoSl:(Tryd.prog.info? 26).map (fun i => (i.zero,i.size,i.bytes))=some (some (.slice none 0 0),1,24):=by kernel_rfl
theorem append_none {w:World} {ops:Array Oper} {rest:List Oper} {o:Oper} {a:Act} {Q:Exit → Act → World → Prop} (hgd:o.guard=none) (s x:Operand)
 (ho:o.op=.call { callee:=.builtin .append,args:=#[s,x],argTypes:=#[51,51] })
 (base:Nat) (v:Value) (vs:List Value) (hs:a.eval s=v) (hown:w.ownsRow base 26 1 v vs.length vs)
 (b:Nat) (c:Nat) (hx:a.eval x=.slice (some ⟨b,0,none⟩) 1 c) (hb:Blk w b 26 #[nilS]) (hsum:vs.length≤1000000) (hbase:base≤w.heap.size)
 (h:∀ v' w',w'.ownsRow base 26 1 v' (vs++[nilS]).length (vs++[nilS]) → w.grownBy w' v.ownBlock → wpList Tryd.prog ops Q rest (a.put o.dst v') w'):wpList Tryd.prog ops Q (o :: rest) a w:=by
 obtain ⟨i0,hi,hz0,hz1,hz2⟩:=info_parts infoSl
 obtain ⟨v',w',hr,h2,h3,h4⟩:=run_append_newS (P:=Tryd.prog) base 51 o.type 26 i0 _ 1 24 Tryd.underlying51 hi hz0 hz1 hz2 rfl (by decide) v vs.length vs hown ⟨b,0,none⟩ 1 c [nilS] rfl (by
  intro j u hj;rw [WideShapes.add_plain,Nat.zero_add,hb.cell,← Array.getElem?_toList]
  exact hj) (fun u hu => by rw [List.mem_singleton.1 hu];rfl) (by unfold maxLen;omega) (by omega) hbase
 refine wpList_plain hgd fun K hK => ?_
 unfold Oper.wp;simp [execOp,ho,resolve,invoke,builtin,hs,hx,hr,Result.andThen];rw [show vs.length+1=(vs++[nilS]).length by simp] at h2
 exact hK _ _ (h v' w' h2 h3)
theorem step_append_str {w:World} {ops:Array Oper} {o:Oper} {a:Act} {K:Act → World → Prop} {Q:Exit → Act → World → Prop} {E:Prop} (hw:Region.wanted o (yielded ops a.tmps)=true) (s x:Operand)
 (ho:o.op=.call { callee:=.builtin .append,args:=#[s,x],argTypes:=#[26,26] })
 (base:Nat) (v:Value) (ss:List (List UInt8)) (hs:a.eval s=v) (hown:w.ownsRow base 9 1 v ss.length (flatS ss))
 (b:Nat) (c:Nat) (y:List UInt8) (hx:a.eval x=.slice (some ⟨b,0,none⟩) 1 c) (hb:Blk w b 9 #[.string (str y)]) (hsum:ss.length≤1000000) (hbase:base≤w.heap.size)
 (h:∀ v' w',w'.ownsRow base 9 1 v' (ss++[y]).length (flatS (ss++[y])) → w.grownBy w' v.ownBlock → NewOr w v v' → K (a.put o.dst v') w'):if Region.wanted o (yielded ops a.tmps)=true then Oper.wp Tryd.prog o a w K Q else E:=by
 rw [if_pos hw];obtain ⟨i0,hi,hz0,hz1,hz2⟩:=info_parts infoStr
 obtain ⟨v',w',hr,h2,h3,h4⟩:=run_append_newS (P:=Tryd.prog) base 26 o.type 9 i0 _ 1 16 Tryd.underlying26 hi hz0 hz1 hz2 rfl (by decide) v ss.length (flatS ss) hown ⟨b,0,none⟩ 1 c [.string (str y)] rfl (by
  intro j u hj;rw [WideShapes.add_plain,Nat.zero_add,hb.cell,← Array.getElem?_toList]
  exact hj) (fun u hu => by rw [List.mem_singleton.1 hu];rfl) (by unfold maxLen;omega) (by omega) hbase
 unfold Oper.wp execOp;simp only [ho,resolve,invoke,builtin,Sem.run_bind,Sem.run_pure,Result.andThen_ok,List.map_toArray,List.map_cons,List.map_nil,hs,hx,hr];have e:flatS ss++[.string (str y)]=flatS (ss++[y]):=by rw [flatS_app];rfl
 rw [e,show ss.length+1=(ss++[y]).length by simp] at h2
 exact h _ _ h2 h3 h4
end Go.Proofs.YtfhelebejclalaaDoor.Lnk
end
section
namespace Go.Proofs.YtfhelebejclalaaDoor.Lnk
open Mem Tre
set_option linter.unusedVariables false
def clsK (t:List NodeV) (k:Nat):List (List (List UInt8)):=classesD (t.take k)
def atK (t:List NodeV) (k:Nat) (l:List UInt8):Option Nat:=(leadsD (t.take k)).findIdx? fun y => decide (y.path=l)
section
variable {t:List NodeV} {k:Nat}
theorem clsK_all {n:Nat} (h:t.length≤n):clsK t n=classesD t:=by unfold clsK;rw [List.take_of_length_le h]
theorem clsK_len:(clsK t k).length=(leadsD (t.take k)).length:=by unfold clsK classesD;rw [List.length_map]
theorem leads_succ (hk:k < t.length):leadsD (t.take (k+1))=if t[k].kind=48∧t[k].leader=t[k].path then leadsD (t.take k)++[t[k]] else leadsD (t.take k):=by
 unfold leadsD;rw [List.take_succ_eq_append_getElem hk,List.filter_append]
 by_cases h:t[k].kind=48∧t[k].leader=t[k].path
 ·rw [if_pos h,List.filter_cons_of_pos (by rw [decide_eq_true h.1,decide_eq_true h.2];rfl),List.filter_nil]
 ·rw [if_neg h,List.filter_cons_of_neg (by simpa [Bool.and_eq_true] using h),List.filter_nil,List.append_nil]
theorem classOf_succ (hk:k < t.length) (l:List UInt8):classOf (t.take (k+1)) l=if t[k].kind=48∧t[k].leader=l then classOf (t.take k) l++[t[k].path] else classOf (t.take k) l:=by
 unfold classOf;rw [List.take_succ_eq_append_getElem hk,List.filter_append,List.map_append]
 by_cases h:t[k].kind=48∧t[k].leader=l
 ·rw [if_pos h,List.filter_cons_of_pos (by rw [decide_eq_true h.1,decide_eq_true h.2];rfl),List.filter_nil]
  rfl
 ·rw [if_neg h,List.filter_cons_of_neg (by simpa [Bool.and_eq_true] using h),List.filter_nil,List.map_nil,List.append_nil]
theorem before_lt (hg:goodT t=true) (hk:k < t.length) {z:NodeV} (hz:z ∈ t.take k):ltB z.path t[k].path=true:=by
 obtain ⟨i,hi,rfl⟩:=List.mem_iff_getElem.1 hz;rw [List.length_take] at hi;rw [List.getElem_take];exact List.pairwise_iff_getElem.1 (rising_of_good hg) i k (by omega) hk (by omega)
theorem lt_before (hg:goodT t=true) (hk:k < t.length) {z:NodeV} (hz:z ∈ t) (h:ltB z.path t[k].path=true):z ∈ t.take k:=by
 obtain ⟨i,hi,rfl⟩:=List.mem_iff_getElem.1 hz;rw [List.mem_take_iff_getElem];refine ⟨i,?_,rfl⟩;rcases Nat.lt_trichotomy i k with h1 | h1 | h1
 ·omega
 ·subst h1;rw [ltB_irrefl] at h;cases h
 ·have:=List.pairwise_iff_getElem.1 (rising_of_good hg) k i hk hi h1
  rw [ltB_asym this] at h;cases h
theorem cls_other (hk:k < t.length) (h:t[k].kind≠48):clsK t (k+1)=clsK t k∧atK t (k+1)=atK t k:=by
 have e:leadsD (t.take (k+1))=leadsD (t.take k):=by rw [leads_succ hk,if_neg (fun hh => h hh.1)]
 constructor
 ·unfold clsK classesD
  rw [e];refine List.map_congr_left fun y _ => ?_
  rw [classOf_succ hk,if_neg (fun hh => h hh.1)]
 ·funext l
  unfold atK;rw [e]
theorem cls_new (hg:goodT t=true) (hk:k < t.length) (h:t[k].kind=48) (hn:atK t k t[k].leader=none) :
 clsK t (k+1)=clsK t k++[[t[k].path]]∧atK t (k+1)=fun l => if l=t[k].leader then some (clsK t k).length else atK t k l:=by
 have hlead:t[k].leader=t[k].path:=by
  obtain ⟨z,hz,z1,z2,z3,_,_,z6⟩:=file_leads hg (List.getElem_mem hk) h;rcases z6 with rfl | z6
  ·exact z3
  ·exfalso
   unfold atK at hn;rw [List.findIdx?_eq_none_iff] at hn;have:=hn z (leads_mem.2 ⟨lt_before hg hk hz z6,z2,z3⟩);rw [decide_eq_true z1] at this
   cases this
 have e:leadsD (t.take (k+1))=leadsD (t.take k)++[t[k]]:=by rw [leads_succ hk,if_pos ⟨h,hlead⟩]
 have hno:∀ y ∈ leadsD (t.take k),y.path≠t[k].path:=fun y hy e => by
  have:=before_lt hg hk (leads_mem.1 hy).1;rw [e,ltB_irrefl] at this
  cases this
 constructor
 ·unfold clsK classesD
  rw [e,List.map_append,List.map_cons,List.map_nil]
  congr 1
  ·refine List.map_congr_left fun y hy => ?_
   rw [classOf_succ hk,if_neg (fun hh => hno y hy (by rw [← hh.2,hlead]))]
  ·rw [classOf_succ hk,if_pos ⟨h,hlead⟩]
   have:classOf (t.take k) t[k].path=[]:=by
    rw [List.eq_nil_iff_forall_not_mem];intro p hp;obtain ⟨x,hx,x1,x2,x3⟩:=classOf_mem.1 hp;obtain ⟨z,hz,z1,z2,z3,_,_,z6⟩:=file_leads hg (List.mem_of_mem_take hx) x1;have hxk:=before_lt hg hk hx;rw [x2] at z1;rcases z6 with rfl | z6
    ·rw [z1,ltB_irrefl] at hxk;cases hxk
    ·rw [z1] at z6
     rw [ltB_asym z6] at hxk;cases hxk
   rw [this,List.nil_append]
 ·funext l
  unfold atK;rw [e,List.findIdx?_append,clsK_len]
  by_cases hl:l=t[k].leader
  ·subst hl
   rw [if_pos rfl];have hn':(leadsD (t.take k)).findIdx? (fun y => decide (y.path=t[k].leader))=none:=hn
   rw [hn',Option.none_or,List.findIdx?_cons,decide_eq_true hlead.symm];simp
  ·rw [if_neg hl,List.findIdx?_cons,decide_eq_false (fun e => hl (by rw [← e,hlead]))]
   simp
theorem atK_lt {l:List UInt8} {i:Nat} (h:atK t k l=some i):i < (clsK t k).length:=by
 unfold atK at h;rw [List.findIdx?_eq_some_iff_getElem] at h;rw [clsK_len];exact h.1
theorem cls_old (hg:goodT t=true) (hk:k < t.length) (h:t[k].kind=48) {i:Nat} (hi:atK t k t[k].leader=some i) :
 clsK t (k+1)=(clsK t k).set i ((clsK t k).getD i []++[t[k].path])∧atK t (k+1)=atK t k:=by
 have hi':=hi;unfold atK at hi;rw [List.findIdx?_eq_some_iff_getElem] at hi;obtain ⟨hl,hp,_⟩:=hi;have hp:(leadsD (t.take k))[i].path=t[k].leader:=of_decide_eq_true hp
 have hne:t[k].leader≠t[k].path:=fun e => by
  have:=before_lt hg hk (leads_mem.1 (List.getElem_mem hl)).1;rw [hp,e,ltB_irrefl] at this
  cases this
 have e:leadsD (t.take (k+1))=leadsD (t.take k):=by rw [leads_succ hk,if_neg (fun hh => hne hh.2)]
 constructor
 ·unfold clsK classesD
  rw [e];apply List.ext_getElem
  ·rw [List.length_set,List.length_map,List.length_map]
  ·intro j h1 h2
   rw [List.length_map] at h1;rw [List.getElem_map,List.getElem_set,classOf_succ hk]
   by_cases hij:i=j
   ·subst hij
    rw [if_pos rfl,if_pos ⟨h,hp.symm⟩,List.getD,List.getElem?_map,List.getElem?_eq_getElem hl];rfl
   ·rw [if_neg hij,List.getElem_map,if_neg]
    rintro ⟨_,hh⟩;have hr:(leadsD (t.take k)).Pairwise fun a b => ltB a.path b.path=true:=((rising_of_good hg).sublist (List.take_sublist ..)).sublist (List.filter_sublist)
    rw [List.pairwise_iff_getElem] at hr;rcases Nat.lt_trichotomy i j with h3 | h3 | h3
    ·have:=hr i j hl h1 h3
     rw [hp,← hh,ltB_irrefl] at this;cases this
    ·exact hij h3
    ·have:=hr j i h1 hl h3
     rw [hp,← hh,ltB_irrefl] at this;cases this
 ·funext l
  unfold atK;rw [e]
theorem clsK_few (hk:k≤t.length):(clsK t k).length≤k ∧ ∀ c ∈ clsK t k,c.length≤k:=by
 have hl:(t.take k).length=k:=by rw [List.length_take];omega
 constructor
 ·rw [clsK_len]
  unfold leadsD;have:=List.length_filter_le (fun y:NodeV => decide (y.kind=48) && decide (y.leader=y.path)) (t.take k)
  omega
 ·intro c hc
  unfold clsK classesD at hc;obtain ⟨y,_,rfl⟩:=List.mem_map.1 hc;unfold classOf;rw [List.length_map];have:=List.length_filter_le (fun x:NodeV => decide (x.kind=48) && decide (x.leader=y.path)) (t.take k)
  omega
end
end Go.Proofs.YtfhelebejclalaaDoor.Lnk
end
section
namespace Go.Proofs.YtfhelebejclalaaDoor.Lnk
open Go.ChangeShapes Go.WideShapes Go.ChangeAt Go.RowKit Base Byt Txt Bk Mk Mem Tre Go.Lib
set_option linter.unusedVariables false
set_option maxRecDepth 100000
def ClsPost (w:World) (cc:List (List (List UInt8))) (e:Ending) (w':World):Prop:=∃ q d,e=.returned (.slice q cc.length d)∧SSAt w' q cc.length cc∧Below w.heap.size w w'
set_option maxHeartbeats 8000000 in
theorem lclasses_any (w:World) (p:Option Addr) (n c:Nat) (xs:List NP) (hN:NodesOk w p n c xs) :
 Calls Tryd.prog 21 #[.slice p n c] w (ClsPost w (classesD (xs.map NP.m))):=by
 have hmm:=@run_makeMap Tryd.prog;have HM:=Lib.hid hN.at_;have HL:=Lib.hid hN.at_.1;have hfew:=hN.few;obtain ⟨T,hT⟩:∃ T,xs.map NP.m=T:=⟨_,rfl⟩;have HT:=Lib.hid hT;have HG:Hid (goodT T=true):=Lib.hid (by rw [← hT];exact hN.good)
 have HTL:Hid (T.length=n):=Lib.hid (by rw [← hT,List.length_map];exact hN.at_.1)
 rw [hT];clear hN hT;obtain ⟨w1,hw1⟩:∃ w1,w.alloc (.map #[] 0)=w1:=⟨_,rfl⟩
 have HJ0:Hid (ClJ w w1 w.heap.size (atK T 0) (clsK T 0) nilS []):=Lib.hid
  { bel:=by rw [← hw1];exact (Below.refl _ _).alloc (Nat.le_refl _) _
    map:=by
     have e:numsK (atK T 0)=fun _ => none:=by funext l;rfl
     rw [e,← hw1];exact mapK_made strK w
    new:=Nat.le_refl _
    row:=World.ownsRow_nil _ _ _ _
    len:=rfl
    sub:=fun i hi => by cases hi
    apart:=fun i j hi => by cases hi }
 go_enter Tryd.func21,Tryd.ntmps21
 go_upto_region 3 with fail
 clear hw1 hmm
 go_wp2_with fail
 go_loopw [3,6,7,8,12] (fun o _ _ _ i wr => ∃ (k:Nat) (v:Value) (vs:List Value),k≤n∧v=o∧i=.int .i64 (k:Int)∧Hid (ClJ w wr w.heap.size (atK T k) (clsK T k) v vs)) (fun _ _ _ _ i _ => n - (RowKit.intOf i).toNat)
 case atStart => exact ⟨0,nilS,[],Nat.zero_le _,rfl,rfl,HJ0⟩
 case round =>
  obtain ⟨k,o,vs,hk,rfl,rfl,hJ⟩:=hrel;obtain ⟨pl,cl,rfl,-,-,-⟩:=own_form hJ.out.row
  by_cases hlt:k < n
  ·have hkT:k < T.length:=by rw [HTL.out];exact hlt
   obtain ⟨b1,o1,rfl,hb1,hBd,hc⟩:=(HM.out.below hJ.out.bel).cells9 hlt
   have hTk:T[k]=(xs.getD k zeroQ).m:=by
    have h1:=HT.out;subst h1;rw [List.getElem_map,List.getD,List.getElem?_eq_getElem (by rw [HL.out];exact hlt)]
    rfl
   obtain ⟨y,hy⟩:∃ y,xs.getD k zeroQ=y:=⟨_,rfl⟩;rw [hy] at hc hTk hBd;obtain ⟨c0,c1,c2,c3,c4,c5,c6,c7,c8⟩:=hc;obtain ⟨W5,hW5⟩:∃ W5,wr.alloc (.cells y.cs 45)=W5:=⟨_,rfl⟩;have hB5:Below wr.heap.size wr W5:=by rw [← hW5];exact (Below.refl _ _).alloc (Nat.le_refl _) _
   have hBN:Blk W5 wr.heap.size 45 y.cs:=by rw [← hW5];exact Blk.new wr _ _
   have HJ5:=Lib.hid (hJ.out.below hB5);have HBN:=Lib.hid hBN;have HTK:=Lib.hid hTk;unfold NP.cs nodC at hW5;have ek:=kind_nq1 y.m.kind 48 48 rfl;obtain ⟨kn,hkn⟩:∃ kn:Int,(y.m.kind.toNat:Int)=kn:=⟨_,rfl⟩;have y0:=hBN.cell 0;have y2:=hBN.cell 2;have y3:=hBN.cell 3;simp only [NP.cs,nodC,List.getElem?_toArray,List.getElem?_cons_zero,List.getElem?_cons_succ] at y0 y2 y3;rw [hkn] at hW5 c3 y3 ek;have hltz:(k:Int) < (n:Int):=by omega
   clear hy hb1 hBd hBN hB5 hkn hTk
   by_cases h48:y.m.kind=48
   ·have H48:Hid (T[k].kind=48):=Lib.hid (by rw [HTK.out];exact h48)
    rw [decide_eq_true h48,Bool.not_true] at ek;have lk:=HJ5.out.map.look_ok (P:=Tryd.prog) Tryd.underlying57 Tryd.underlying9 (z:=.int .i64 0) (fun w => Tryd.zeroValue3 w) y.m.leader
    obtain ⟨fo,hfo⟩:∃ fo,atK T k y.m.leader=fo:=⟨_,rfl⟩;have HFO:=Lib.hid hfo;unfold numsK at lk;rw [hfo] at lk;clear h48 hfo
    go_upto_region 6 with fail
    clear hW5 c0 c1 c2 c3 c4 c5 c6 c7 c8
    cases fo with
    | none =>
      have lk2:(Instr.lookup 57 (.map (some w.heap.size)) (.string (str y.m.leader)) true).run Tryd.prog W5=.ok (.tuple #[.int .i64 0,.bool false]) W5:=lk;clear lk
      go_wp2_with (at_mapUpdate;refine wpList_putK (K:=strK) rfl (.tmp 30) (.tmp 32) (.tmp 33) rfl Tryd.underlying57 Tryd.underlying9 w.heap.size HJ5.out.map rfl y.m.leader rfl (.int .i64 (vs.length:Int)) rfl ?_)
      intro w7 hm7 hk7 hs7
      have hJ7:ClJ w w7 w.heap.size (fun l => if l=y.m.leader then some (clsK T k).length else atK T k l) (clsK T k) (.slice pl vs.length cl) vs:=by
       refine HJ5.out.put hk7.out ?_
       have e:numsK (fun l => if l=y.m.leader then some (clsK T k).length else atK T k l)=fun z => if z=y.m.leader then some (.int .i64 (vs.length:Int)) else numsK (atK T k) z:=by
        funext z
        unfold numsK;rw [HJ5.out.len]
        by_cases h:z=y.m.leader<;>simp [h]
       rw [e];exact hm7.out
      have hB7:Blk w7 wr.heap.size 45 y.cs:=HBN.out.keptS hk7.out (fun e => blk_not_map HBN.out HJ5.out.map e)
      have HJ7:=Lib.hid hJ7;have HB7:=Lib.hid hB7;have hA7:Below w7.heap.size w7 (w7.alloc (.cells #[nilS] 26)):=(Below.refl _ _).alloc (Nat.le_refl _) _;have HA7:=Lib.hid hA7;have HJA7:=Lib.hid (hJ7.below hA7);have HF7:Hid (vs.length≤1000000):=Lib.hid (by rw [hJ7.len];have:=(clsK_few (t:=T) (k:=k) (by omega)).1;omega)
      clear hm7 hk7 hs7 hJ7 hB7 hA7 lk2 y0 y2 y3
      go_wp2_with (at_builtin;refine append_none rfl _ _ rfl w.heap.size (.slice pl vs.length cl) vs rfl HJA7.out.row w7.heap.size 1 rfl (Blk.new w7 _ _) HF7.out HJA7.out.bel.size ?_)
      intro v8 w8 hr8 hg8;have hJ8:=HJA7.out.push (by rw [show vs.length+1=(vs++[nilS]).length by simp] at hr8;exact hr8) hg8
      have hB8:Blk w8 wr.heap.size 45 y.cs:=by
       have h1:=HB7.out.below HA7.out HB7.out.lt;refine h1.keptS ((Kept.refl (fun b => (Value.slice pl vs.length cl).ownBlock=some b) _).grown hg8 (fun k hk => .inr hk)) (fun e => ?_)
       obtain ⟨cur,hc⟩:=own_blkE HJA7.out.row e;exact absurd (blk_type h1 hc) (by decide)
      obtain ⟨p8,c8,hv8,-,-,hf8⟩:=own_form hJ8.row;obtain ⟨g8,hp8,-⟩:=hf8 (by simp)
      subst hp8;subst hv8;have hl8:vs.length < (vs++[nilS]).length:=by simp
      have HL8:=Lib.hid hl8;obtain ⟨vs8,hvs8⟩:∃ x,vs++[nilS]=x:=⟨_,rfl⟩;rw [hvs8] at hJ8 HL8;have hm8:vs8.length=vs.length+1:=by rw [← hvs8];simp
      have HM8:=Lib.hid hm8;have hcc:(clsK T k++[([]:List (List UInt8))]).getD vs.length []=[]:=by rw [hJ8.len] at hm8;rw [List.getD,HJ7.out.len,List.getElem?_concat_length];rfl
      have EQ:Hid ((clsK T k++[([]:List (List UInt8))]).set vs.length ((clsK T k++[([]:List (List UInt8))]).getD vs.length []++[y.m.path])=clsK T (k+1)):=Lib.hid (by
       have h1:=(cls_new HG.out hkT H48.out (by rw [HTK.out];exact HFO.out)).1
       rw [HTK.out] at h1;rw [h1,hcc,HJ7.out.len,List.set_append_right _ _ (Nat.le_refl _),Nat.sub_self]
       rfl)
      have EF:Hid ((fun l => if l=y.m.leader then some (clsK T k).length else atK T k l)=atK T (k+1)):=Lib.hid (by
       have h1:=(cls_new HG.out hkT H48.out (by rw [HTK.out];exact HFO.out)).2
       rw [HTK.out] at h1
       exact h1.symm)
      have HJ8:=Lib.hid hJ8;have HB8:=Lib.hid hB8;have HCC:=Lib.hid hcc;clear hr8 hg8 hJ8 hB8 hl8 hm8 hcc hf8;rw [hvs8];clear hvs8;obtain ⟨u,hu⟩:∃ u,vs8.getD vs.length nilS=u:=⟨_,rfl⟩;have hA:Below w8.heap.size w8 (w8.drew.alloc (.cells #[.string (str y.m.path)] 9)):=(below_drewN (Below.refl w8.heap.size w8) 1).alloc (Nat.le_refl _) _;have HJA:=Lib.hid (HJ8.out.below hA);have HU:=Lib.hid hu;have HROW:Hid ((w8.drew.alloc (.cells #[.string (str y.m.path)] 9)).ownsRow w.heap.size 9 1 u ((clsK T k++[([]:List (List UInt8))]).getD vs.length []).length (flatS ((clsK T k++[([]:List (List UInt8))]).getD vs.length []))):=Lib.hid (by rw [← hu];exact HJA.out.sub vs.length HL8.out)
      have HBP:Hid (Blk (w8.drew.alloc (.cells #[.string (str y.m.path)] 9)) w8.heap.size 9 #[.string (str y.m.path)]):=Lib.hid (Blk.new w8.drew _ _);have HWS:Hid (w.heap.size≤(w8.drew.alloc (.cells #[.string (str y.m.path)] 9)).heap.size):=Lib.hid HJA.out.bel.size;have HCL:Hid (((clsK T k++[([]:List (List UInt8))]).getD vs.length []).length≤1000000):=Lib.hid (by rw [HCC.out];exact Nat.zero_le _)
      have q1:w8.cell? ⟨g8,vs.length,none⟩=some u:=by rw [HJ8.out.row.cellAt vs.length (by have:=HL8.out;omega),getV_at HL8.out,hu]
      have q2:(w8.drew.alloc (.cells #[.string (str y.m.path)] 9)).cell? ⟨g8,vs.length,none⟩=some u:=by rw [HJA.out.row.cellAt vs.length (by have:=HL8.out;omega),getV_at HL8.out,hu]
      have q3:(w8.alloc (.cells #[.string (str y.m.path)] 9)).cell? ⟨g8,vs.length,none⟩=some u:=q2;have y0:w8.cell? ⟨wr.heap.size,0,none⟩=some (.string (str y.m.path)):=HB8.out.cell 0;obtain ⟨m9,hm9⟩:∃ m,((clsK T k++[([]:List (List UInt8))]).getD vs.length []++[y.m.path]).length=m:=⟨_,rfl⟩;have HM9:=Lib.hid hm9;have hiz:((vs.length:Nat):Int) < ((vs8.length:Nat):Int):=by have:=HL8.out;omega
      have hi0:(0:Int)≤((vs.length:Nat):Int):=by omega
      clear hu hA hm9
      go_wp2_with fail
      go_region_law (first
       | (refine step_append_str (by kernel_rfl) _ _ (by rfl) w.heap.size u ((clsK T k++[([]:List (List UInt8))]).getD vs.length []) (by rfl) HROW.out w8.heap.size 1 y.m.path (by rfl) HBP.out HCL.out HWS.out ?_
          intro v9 w9 hr9 hg9 hn9;obtain ⟨r9,f9,hJ9⟩:=HJA.out.add HL8.out hr9 (by rw [HU.out];exact hg9) (by rw [HU.out];exact hn9)
          rw [HU.out] at r9;rw [EQ.out,EF.out] at hJ9;rw [HM9.out] at hr9;obtain ⟨p9,c9,rfl,-,-,-⟩:=own_form hr9;have HN:=Lib.hid hJ9
          clear hr9 hg9 hn9 hJ9)
       | fail)
      all_goals (
       clear r9 f9
       go_wp2_with fail
       go_roundw
       case rel => exact ⟨k+1,_,_,by omega,rfl,by go_num,HN⟩
       case measure => simp [RowKit.intOf];omega)
    | some f0 =>
      have lk2:(Instr.lookup 57 (.map (some w.heap.size)) (.string (str y.m.leader)) true).run Tryd.prog W5=.ok (.tuple #[.int .i64 (f0:Int),.bool true]) W5:=lk;have hf0:f0 < vs.length:=by rw [HJ5.out.len];exact atK_lt HFO.out
      obtain ⟨p8,c8,hv8,-,-,hf8⟩:=own_form HJ5.out.row;obtain ⟨g8,hp8,-⟩:=hf8 (by omega)
      subst hp8
      cases hv8
      have EQ:Hid ((clsK T k).set f0 ((clsK T k).getD f0 []++[y.m.path])=clsK T (k+1)):=Lib.hid (by
       have h1:=(cls_old HG.out hkT H48.out (i:=f0) (by rw [HTK.out];exact HFO.out)).1
       rw [HTK.out] at h1
       exact h1.symm)
      have EF:Hid (atK T k=atK T (k+1)):=Lib.hid (cls_old HG.out hkT H48.out (i:=f0) (by rw [HTK.out];exact HFO.out)).2.symm
      have HF0:=Lib.hid hf0
      have HFW:Hid (((clsK T k).getD f0 []).length≤1000000):=Lib.hid (by
       have h1:f0 < (clsK T k).length:=atK_lt HFO.out;have h2:=(clsK_few (t:=T) (k:=k) (by omega)).2 ((clsK T k).getD f0 []) (by rw [List.getD,List.getElem?_eq_getElem h1];exact List.getElem_mem h1)
       omega)
      clear lk hf0 hf8 y0;obtain ⟨u,hu⟩:∃ u,vs.getD f0 nilS=u:=⟨_,rfl⟩;have hA:Below W5.heap.size W5 (W5.drew.alloc (.cells #[.string (str y.m.path)] 9)):=(below_drewN (Below.refl W5.heap.size W5) 1).alloc (Nat.le_refl _) _;have HJA:=Lib.hid (HJ5.out.below hA);have HU:=Lib.hid hu;have HROW:Hid ((W5.drew.alloc (.cells #[.string (str y.m.path)] 9)).ownsRow w.heap.size 9 1 u ((clsK T k).getD f0 []).length (flatS ((clsK T k).getD f0 []))):=Lib.hid (by rw [← hu];exact HJA.out.sub f0 HF0.out)
      have HBP:Hid (Blk (W5.drew.alloc (.cells #[.string (str y.m.path)] 9)) W5.heap.size 9 #[.string (str y.m.path)]):=Lib.hid (Blk.new W5.drew _ _);have HWS:Hid (w.heap.size≤(W5.drew.alloc (.cells #[.string (str y.m.path)] 9)).heap.size):=Lib.hid HJA.out.bel.size;have HCL:Hid (((clsK T k).getD f0 []).length≤1000000):=Lib.hid HFW.out;have q1:W5.cell? ⟨g8,f0,none⟩=some u:=by rw [HJ5.out.row.cellAt f0 (by have:=HF0.out;omega),getV_at HF0.out,hu]
      have q2:(W5.drew.alloc (.cells #[.string (str y.m.path)] 9)).cell? ⟨g8,f0,none⟩=some u:=by rw [HJA.out.row.cellAt f0 (by have:=HF0.out;omega),getV_at HF0.out,hu]
      have q3:(W5.alloc (.cells #[.string (str y.m.path)] 9)).cell? ⟨g8,f0,none⟩=some u:=q2;have y0:W5.cell? ⟨wr.heap.size,0,none⟩=some (.string (str y.m.path)):=HBN.out.cell 0;obtain ⟨m9,hm9⟩:∃ m,((clsK T k).getD f0 []++[y.m.path]).length=m:=⟨_,rfl⟩;have HM9:=Lib.hid hm9;have hiz:((f0:Nat):Int) < ((vs.length:Nat):Int):=by have:=HF0.out;omega
      have hi0:(0:Int)≤((f0:Nat):Int):=by omega
      clear hu hA hm9
      go_wp2_with fail
      go_region_law (first
       | (refine step_append_str (by kernel_rfl) _ _ (by rfl) w.heap.size u ((clsK T k).getD f0 []) (by rfl) HROW.out W5.heap.size 1 y.m.path (by rfl) HBP.out HCL.out HWS.out ?_
          intro v9 w9 hr9 hg9 hn9;obtain ⟨r9,f9,hJ9⟩:=HJA.out.add HF0.out hr9 (by rw [HU.out];exact hg9) (by rw [HU.out];exact hn9)
          rw [HU.out] at r9;rw [EQ.out,EF.out] at hJ9;rw [HM9.out] at hr9;obtain ⟨p9,c9,rfl,-,-,-⟩:=own_form hr9;have HN:=Lib.hid hJ9
          clear hr9 hg9 hn9 hJ9)
       | fail)
      all_goals (
       clear r9 f9
       go_wp2_with fail
       go_roundw
       case rel => exact ⟨k+1,_,_,by omega,rfl,by go_num,HN⟩
       case measure => simp [RowKit.intOf];omega)
   ·rw [decide_eq_false h48,Bool.not_false] at ek
    have HN:Hid (ClJ w W5 w.heap.size (atK T (k+1)) (clsK T (k+1)) (.slice pl vs.length cl) vs):=Lib.hid (by
     obtain ⟨e1,e2⟩:=cls_other hkT (by rw [HTK.out];exact h48)
     rw [e1,e2]
     exact HJ5.out)
    go_wp2
    go_roundw
    case rel => exact ⟨k+1,_,_,by omega,rfl,by go_num,HN⟩
    case measure => simp [RowKit.intOf];omega
  ·obtain rfl:k=n:=by omega
   have hks:¬ ((k:Int) < (k:Int)):=by omega
   have hJn:=hJ.out;rw [show clsK T k=classesD T from clsK_all (by rw [HTL.out];exact Nat.le_refl _)] at hJn
   obtain ⟨q,d,hv,hs⟩:=hJn.rows;have F:=Lib.hid (And.intro hs hJn.bel);rw [hv];clear hs hJn hJ
   go_wp2
   go_ret
   exact ⟨q,d,rfl,F.out.1,F.out.2⟩
end Go.Proofs.YtfhelebejclalaaDoor.Lnk
end
section
namespace Go.Proofs.YtfhelebejclalaaDoor.Lnk
open Go.ChangeShapes Go.WideShapes Go.ChangeAt Go.RowKit Base Byt Txt Bk Rec Block Mem Tre Go.Lib
set_option linter.unusedVariables false
set_option maxRecDepth 100000
theorem strs_two {w:World} {b:Nat} {x y:List UInt8} (hb:Blk w b 9 #[.string (str x),.string (str y)]):StrsAt w (some ⟨b,0,none⟩) 2 [x,y]:=by
 refine ⟨rfl,fun _ => ⟨b,0,rfl,hb.lt,fun i hi => ?_⟩⟩
 rw [Nat.zero_add,hb.cell]
 match i,hi with
 | 0,_ => rfl
 | 1,_ => rfl
theorem strs_one {w:World} {b:Nat} {x:List UInt8} (hb:Blk w b 9 #[.string (str x)]):StrsAt w (some ⟨b,0,none⟩) 1 [x]:=by
 refine ⟨rfl,fun _ => ⟨b,0,rfl,hb.lt,fun i hi => ?_⟩⟩
 obtain rfl:i=0:=by omega
 exact hb.cell 0
theorem mems_oneL {w:World} {b:Nat} {y:MP} (hb:Blk w b 50 y.cs) (hB:BodyAt w y):MemsAt w (some ⟨b,0,none⟩) 1 [y]:=by
 refine ⟨rfl,fun x hx => by rw [List.mem_singleton.1 hx];exact hB,fun _ => ⟨b,0,rfl,hb.lt,fun i hi j hj => ?_⟩⟩
 obtain rfl:i=0:=by omega
 simp only [Nat.mul_zero,Nat.zero_add];rw [hb.cell];rfl
theorem body_zero (w:World):BodyAt w ⟨zeroMv,none,0⟩:=⟨BAt.none_ w none,Nat.le_refl _,Nat.zero_le _⟩
set_option maxHeartbeats 4000000 in
theorem ans11_any (H:LinksC) (w:World) (hT:Path.Tabs w):Calls Tryd.prog 10 #[] w fun e w' => e=.returned (.bool true)∧Below w.heap.size w w':=by
 have HC:=Lib.hid H;have HT:=Lib.hid hT;have HP:=Lib.hid pair_any;clear H hT
 go_enter Tryd.func10,Tryd.ntmps10
 go_wp2_with fail
 refine (HP.out w).mono ?_
 rintro e w1 ⟨q,rfl,hN,hb1⟩;obtain ⟨W1,hW1⟩:∃ W1,w1.alloc (.cells #[.string (str [98]),.string (str [97])] 9)=W1:=⟨_,rfl⟩;have h11:Below w1.heap.size w1 W1:=by rw [← hW1];exact (Below.refl _ _).alloc (Nat.le_refl _) _
 have hS1:Blk W1 w1.heap.size 9 #[.string (str [98]),.string (str [97])]:=by rw [← hW1];exact Blk.new w1 _ _
 have HB1:=Lib.hid (hb1.trans (h11.mono hb1.size))
 have hm:=HC.out.members W1 q 2 2 [qA,qB] (some ⟨w1.heap.size,0,none⟩) 2 2 [[98],[97]] (hN.below h11) ⟨strs_two hS1,Nat.le_refl _,by decide,by decide,fun s hs => by
  rcases List.mem_cons.1 hs with rfl | hs
  ·decide
  ·rw [List.mem_singleton.1 hs];decide⟩ (HT.out.below HB1.out)
 rw [show ([qA,qB]:List NP).map NP.m=[pA,pB] from rfl,pair_lm] at hm
 have HM1:=Lib.hid hm;rw [show (str [98])=(⟨#[98]⟩:ByteArray) from rfl,show (str [97])=(⟨#[97]⟩:ByteArray) from rfl] at hW1
 unfold LMemPost at HM1;clear hN hb1 h11 hS1 hm
 go_wp2_with fail
 refine HM1.out.mono ?_
 rintro e w2 ⟨q2,d2,ys,rfl,hys,hyn,hyd,hyd2,hb2⟩;have HB2:=Lib.hid (HB1.out.trans (hb2.mono HB1.out.size))
 have hl2:ys.length=2:=by
  have:=congrArg List.length hys
  rwa [List.length_map] at this
 obtain ⟨y0,y1,rfl⟩:∃ y0 y1,ys=[y0,y1]:=by
  match ys,hl2 with
  | [a,b],_ => exact ⟨a,b,rfl⟩
 clear hl2;have hy0:y0.m=mB:=by injection hys
 have hy1:y1.m=mH:=by injection hys with _ h;injection h
 have HY:=Lib.hid (And.intro hy0 (And.intro hy1 (And.intro hyn (And.intro hyd hyd2))));clear hys hy0 hy1 hyn hyd hyd2 hb2 HM1 hW1
 go_wp2_with fail
 refine (HP.out w2).mono ?_
 rintro e w3 ⟨q3,rfl,hN,hb3⟩;obtain ⟨W3,hW3⟩:∃ W3,w3.alloc (.cells #[.string (str [98])] 9)=W3:=⟨_,rfl⟩;have h33:Below w3.heap.size w3 W3:=by rw [← hW3];exact (Below.refl _ _).alloc (Nat.le_refl _) _
 have hS3:Blk W3 w3.heap.size 9 #[.string (str [98])]:=by rw [← hW3];exact Blk.new w3 _ _
 have hb23:=hb3.trans (h33.mono hb3.size);have HB3:=Lib.hid (HB2.out.trans (hb23.mono HB2.out.size));have HY3:=Lib.hid (HY.out.2.2.1.below hb23)
 have hm:=HC.out.members W3 q3 2 2 [qA,qB] (some ⟨w3.heap.size,0,none⟩) 1 1 [[98]] (hN.below h33) ⟨strs_one hS3,Nat.le_refl _,by decide,by decide,fun s hs => by
  rw [List.mem_singleton.1 hs];decide⟩ (HT.out.below HB3.out)
 rw [show ([qA,qB]:List NP).map NP.m=[pA,pB] from rfl,pair_lm2] at hm
 have HM3:=Lib.hid hm;rw [show (str [98])=(⟨#[98]⟩:ByteArray) from rfl] at hW3
 unfold LMemPost at HM3;clear hN hb3 h33 hS3 hm hb23
 go_wp2_with fail
 refine HM3.out.mono ?_
 rintro e w4 ⟨q4,d4,zs,rfl,hzs,hzn,_,_,hb4⟩;have HB4:=Lib.hid (HB3.out.trans (hb4.mono HB3.out.size));have HY4:=Lib.hid (HY3.out.below hb4);clear hzs hzn hb4 HM3 hW3
 go_wp2_with fail
 refine (HP.out w4).mono ?_
 rintro e w5 ⟨q5,rfl,hN,hb5⟩;have HB5:=Lib.hid (HB4.out.trans (hb5.mono HB4.out.size));have HY5:=Lib.hid (HY4.out.below hb5);have hcl:=HC.out.classes w5 q5 2 2 [qA,qB] hN (HT.out.below HB5.out);rw [show ([qA,qB]:List NP).map NP.m=[pA,pB] from rfl,pair_classes] at hcl
 have HCL:=Lib.hid hcl;clear hN hb5 hcl
 go_wp2_with fail
 refine HCL.out.mono ?_
 rintro e w6 ⟨q6,d6,rfl,hss,hb6⟩;have HB6:=Lib.hid (HB5.out.trans (hb6.mono HB5.out.size));have HY6:=Lib.hid (HY5.out.below hb6);have HSS:=Lib.hid hss;obtain ⟨b2,o2,rfl,hbb,_,g0⟩:=HY6.out.cells8 (show 0 < 2 by decide)
 obtain ⟨b2',o2',he2,_,_,g1⟩:=HY6.out.cells8 (show 1 < 2 by decide)
 cases he2
 rw [show ([y0,y1]:List MP).getD 0 zeroP=y0 from rfl] at g0
 rw [show ([y0,y1]:List MP).getD 1 zeroP=y1 from rfl] at g1
 have k0:=g0.2.2.1;have k1:=g1.2.2.1;have t1:=g1.2.1;rw [HY.out.1,show ((mB.kind.toNat:Int))=48 from rfl] at k0
 rw [HY.out.2.1,show ((mH.kind.toNat:Int))=49 from rfl] at k1
 rw [HY.out.2.1,show str mH.target=(⟨#[98]⟩:ByteArray) from rfl] at t1
 simp only [Nat.zero_mul,Nat.one_mul,Nat.add_zero] at k0 k1 t1
 have hsd:=HC.out.sound w6 (some ⟨b2,o2,none⟩) 2 d2 [y0,y1] ⟨HY6.out,HY.out.2.2.2.1,HY.out.2.2.2.2,by decide,fun x hx => by
  rcases List.mem_cons.1 hx with rfl | hx
  ·rw [HY.out.1];exact ⟨by decide,by decide,by decide⟩
  ·rw [List.mem_singleton.1 hx,HY.out.2.1];exact ⟨by decide,by decide,by decide⟩⟩ (HT.out.below HB6.out)
 rw [show ([y0,y1]:List MP).map MP.m=[mB,mH] by rw [← HY.out.1,← HY.out.2.1];rfl,pair_sound] at hsd
 have HSD:=Lib.hid hsd;clear hb6 hss hbb g0 g1 hsd HCL
 go_wp2_with fail
 refine HSD.out.mono ?_
 rintro e w7 ⟨rfl,hb7⟩;obtain ⟨W7,hW7⟩:∃ W7,w7.alloc (.cells (MP.cs ⟨zeroMv,none,0⟩) 50)=W7:=⟨_,rfl⟩;have h77:Below w7.heap.size w7 W7:=by rw [← hW7];exact (Below.refl _ _).alloc (Nat.le_refl _) _
 have hZ7:Blk W7 w7.heap.size 50 (MP.cs ⟨zeroMv,none,0⟩):=by rw [← hW7];exact Blk.new w7 _ _
 have hb67:=hb7.trans (h77.mono hb7.size);have HB7:=Lib.hid (HB6.out.trans (hb67.mono HB6.out.size));have HSS7:=Lib.hid (HSS.out.below hb67)
 have hsd:=HC.out.sound W7 (some ⟨w7.heap.size,0,none⟩) 1 1 [⟨zeroMv,none,0⟩] ⟨mems_oneL hZ7 (body_zero _),Nat.le_refl _,by decide,by decide,fun x hx => by
  rw [List.mem_singleton.1 hx];exact ⟨by decide,by decide,by decide⟩⟩ (HT.out.below HB7.out)
 rw [show ([⟨zeroMv,none,0⟩]:List MP).map MP.m=[zeroMv] from rfl,zero_sound] at hsd
 have HSD2:=Lib.hid hsd;rw [show MP.cs ⟨zeroMv,none,0⟩=#[.string ⟨#[]⟩,.string ⟨#[]⟩,.int .u8 0,.int .i64 0,.int .i64 0,.int .i64 0,.int .i64 0,.slice none 0 0] from rfl] at hW7
 clear hb7 h77 hZ7 hb67 hsd k0 k1 t1 HSD
 go_wp2_with fail
 refine HSD2.out.mono ?_
 rintro e w8 ⟨rfl,hb8⟩;have FIN:=Lib.hid (HB7.out.trans (hb8.mono HB7.out.size));obtain ⟨_,ps,hps,_,hcc⟩:=HSS7.out.below hb8;obtain ⟨b6,o6,rfl,_,hc6⟩:=hcc (by decide)
 have s0:=hc6 0 (by decide)
 rw [show ([[[97],[98]]]:List (List (List UInt8))).getD 0 []=[[97],[98]] from rfl,show ([[97],[98]]:List (List UInt8)).length=2 from rfl] at s0
 simp only [Nat.add_zero] at s0;clear hb8 hps hcc hc6 hW7
 go_wp2
 go_ret
 exact ⟨rfl,FIN.out⟩
end Go.Proofs.YtfhelebejclalaaDoor.Lnk
end
section
namespace Go.Proofs.YtfhelebejclalaaDoor.Lnk
open Go.ChangeShapes Go.WideShapes Go.ChangeAt Go.RowKit Base Byt Txt Bk Rec Block Mem Tre Go.Lib
set_option linter.unusedVariables false
set_option maxRecDepth 100000
theorem lm_order {t:List NodeV} (hg:goodT t=true) {os:List (List UInt8)} (h:OrderOf t os):lmD t os=(linksD t os,0):=by
 unfold lmD;rw [if_pos ((orderB_iff hg os).2 h)]
theorem paths_is (xs:List NP):pathsN xs=(xs.map NP.m).map (·.path):=by
 unfold pathsN;rw [List.map_map];rfl
theorem links_room {t:List NodeV} {os:List (List UInt8)} (ho:OrderOf t os) (hr:∀ x ∈ t,x.path.length≤140737488351232∧x.target.length≤140737488351232∧x.leader.length≤140737488351232∧x.body.length≤140737488351232) :
 ∀ m ∈ linksD t os,m.path.length≤140737488351232∧m.target.length≤140737488351232∧m.body.length≤140737488351232:=fun m hm => by
 rw [linksD_is (order_mem ho)] at hm;obtain ⟨i,hi,rfl⟩:=List.mem_map.1 hm;rw [List.mem_range] at hi;have hx:=order_get ho hi;have h1:=hr _ hx.1;unfold memAt
 split
 ·exact ⟨h1.1,h1.2.1,h1.2.2.2⟩
 ·have hy:=order_get ho (show repOf t os i < os.length from Nat.lt_of_le_of_lt (rep_le i) hi)
  have h2:=hr _ hy.1;refine ⟨h1.1,?_,Nat.zero_le _⟩;show (os.getD (repOf t os i) []).length≤_;rw [← hy.2];exact h2.1
end Go.Proofs.YtfhelebejclalaaDoor.Lnk
namespace Go.Proofs.YtfhelebejclalaaDoor.Walk
open Go.ChangeShapes Go.WideShapes Go.ChangeAt Go.RowKit Base Byt Txt Bk Rec Block Mem Tre Lnk Go.Lib
set_option linter.unusedVariables false
set_option maxRecDepth 100000
end Go.Proofs.YtfhelebejclalaaDoor.Walk
end
