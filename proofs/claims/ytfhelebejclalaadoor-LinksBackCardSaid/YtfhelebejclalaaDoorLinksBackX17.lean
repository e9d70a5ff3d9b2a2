/- Texts of this seat, merged: what the proof reaches. -/
import Derived.Test.YtfhelebejclalaaDoorLinksBackX16
import Derived.Test.YtfhelebejclalaaDoorLinksBackX10
import Derived.Deep.DeepCutAuto
import Derived.BigRegion
import Derived.Test.YtfhelebejclalaaDoorLinksBackX6
import Derived.Deep.RegionHeldLaw
namespace Go.Proofs.YtfhelebejclalaaDoor
namespace Base
end Base
namespace Bk
end Bk
namespace Block
end Block
namespace Byt
end Byt
namespace Mem
end Mem
namespace Rec
end Rec
namespace Tre
end Tre
namespace Txt
end Txt
end Go.Proofs.YtfhelebejclalaaDoor
section
namespace Go.Proofs.YtfhelebejclalaaDoor.Tre
open Go.ChangeShapes Go.WideShapes Go.ChangeAt Go.RowKit Base Byt Txt Bk Mem Go.Lib
set_option linter.unusedVariables false
set_option maxRecDepth 100000
def cmpD (a b:List UInt8):Int:=if ltB a b=true then -1 else if ltB b a=true then 1 else 0
theorem cmpD_lt (a b:List UInt8):(cmpD a b < 0) ↔ ltB a b=true:=by
 unfold cmpD
 by_cases h1:ltB a b=true
 ·simp [h1]
 ·by_cases h2:ltB b a=true<;>simp [h1,h2]
theorem compare_any (a b:List UInt8) (w:World) :
 Calls Tryd.prog 43 #[.string (str a),.string (str b)] w fun e w' => e=.returned (.int .i64 (cmpD a b))∧w=w':=by
 have h1:=Path.less_any a b;have h2:=Path.less_any b a;change ∀ w,Calls Tryd.prog 53 #[.string (str a),.string (str b)] w fun e w' => e=.returned (.bool (ltB a b))∧w=w' at h1
 change ∀ w,Calls Tryd.prog 53 #[.string (str b),.string (str a)] w fun e w' => e=.returned (.bool (ltB b a))∧w=w' at h2
 unfold cmpD;obtain ⟨x,hx⟩:∃ x,ltB a b=x:=⟨_,rfl⟩;obtain ⟨y,hy⟩:∃ y,ltB b a=y:=⟨_,rfl⟩;rw [hx] at h1 ⊢;rw [hy] at h2 ⊢;clear hx hy
 go_enter Tryd.func43,Tryd.ntmps43
 cases x with
 | true =>
   go_wp2_with fail
   refine (h1 _).mono ?_
   rintro e w' ⟨rfl,rfl⟩
   go_wp2
   go_ret
   exact ⟨rfl,rfl⟩
 | false =>
   cases y with
   | true =>
     go_wp2_with fail
     refine (h1 _).mono ?_
     rintro e w' ⟨rfl,rfl⟩
     go_wp2_with fail
     refine (h2 _).mono ?_
     rintro e w' ⟨rfl,rfl⟩
     go_wp2
     go_ret
     exact ⟨rfl,rfl⟩
   | false =>
     go_wp2_with fail
     refine (h1 _).mono ?_
     rintro e w' ⟨rfl,rfl⟩
     go_wp2_with fail
     refine (h2 _).mono ?_
     rintro e w' ⟨rfl,rfl⟩
     go_wp2
     go_ret
     exact ⟨rfl,rfl⟩
theorem rising_get {ys:List NodeV} (h:Rising ys) {i j:Nat} (hij:i < j) (hj:j < ys.length):ltB (ys.getD i zeroN).path (ys.getD j zeroN).path=true:=by
 have hi:i < ys.length:=by omega
 have:=List.pairwise_iff_getElem.1 h i j hi hj hij;rw [List.getD,List.getD,List.getElem?_eq_getElem hi,List.getElem?_eq_getElem hj];exact this
theorem getN_of_mem {ys:List NodeV} {y:NodeV} (h:y ∈ ys):∃ i,i < ys.length∧ys.getD i zeroN=y:=by
 obtain ⟨i,hi,he⟩:=List.mem_iff_getElem.1 h;exact ⟨i,hi,by rw [List.getD,List.getElem?_eq_getElem hi];exact he⟩
def BRel (ys:List NodeV) (b:List UInt8) (i j:Nat):Prop:=
 Rising ys → (∀ k,k < i → ltB (ys.getD k zeroN).path b=true)∧(∀ k,j≤k → k < ys.length → ltB (ys.getD k zeroN).path b=false)
theorem BRel.none_ {ys:List NodeV} {b:List UInt8} {i:Nat} (hr:BRel ys b i i) (hne:i < ys.length → (ys.getD i zeroN).path≠b) (hs:Rising ys):∀ y ∈ ys,y.path≠b:=fun y hy e => by
 obtain ⟨k,hk,rfl⟩:=getN_of_mem hy;obtain ⟨h1,h2⟩:=hr hs;rcases Nat.lt_trichotomy k i with h | h | h
 ·exact ltB_ne (h1 k h) e
 ·subst h;exact hne hk e
 ·have a1:=rising_get hs h hk
  rw [e,h2 i (Nat.le_refl _) (by omega)] at a1
  cases a1
end Go.Proofs.YtfhelebejclalaaDoor.Tre
end
section
namespace Go.Proofs.YtfhelebejclalaaDoor.Lnk
open Go.ChangeShapes Go.WideShapes Go.ChangeAt Go.RowKit Base Byt Txt Bk Rec Block Mem Tre Go.Lib
set_option linter.unusedVariables false
set_option maxRecDepth 100000
def MixPost (w:World) (n:Nat) (ps:List (List UInt8)) (e:Ending) (w':World):Prop:=
 ∃ q d os,e=.returned (.slice q n d)∧os.Perm ps∧n≤d∧d≤maxLen∧StrsAt w' q n os∧Below w.heap.size w w'
set_option maxHeartbeats 4000000 in
theorem mixed_any (p:Option Addr) (n c:Nat) (xs:List NP) (a1:Option Addr) (len1 cap1:Nat) (ts:List UInt8) (w:World) (h:NodesAt w p n xs) (hn:n≤60) (hb:BAt w a1 len1 ts) (h1b:len1≤140737488351232) :
 Calls Tryd.prog 11 #[.slice p n c,.slice a1 len1 cap1] w (MixPost w n (pathsN xs)):=by
 have HP:=Lib.hid (rpaths_any p n c xs w h (by omega))
 have HL:=Lib.hid h.1;have HBT:=Lib.hid hb;clear h hb;unfold OwnStrs at HP
 go_enter Tryd.func11,Tryd.ntmps11
 go_wp2_with fail
 refine HP.out.mono ?_
 rintro e w1 ⟨q,d,ss,rfl,hss,hlen,hd1,hd2,hstr,hrow,hb1⟩;have HO:Hid (MixI w w1 (pathsN xs) q n ss):=Lib.hid ⟨hb1,hrow,by rw [hss],by rw [← hss];exact hlen⟩
 have HD:=Lib.hid (And.intro hd1 hd2);clear hss hlen hd1 hd2 hstr hrow hb1 HP
 go_wp2_with fail
 go_loopw [6,7] (fun i _ wr => ∃ (a:Nat) (zs:List (List UInt8)),a≤n∧i=.int .i64 (a:Int)∧Hid (MixI w wr (pathsN xs) q n zs)) (fun i _ _ => n - (RowKit.intOf i).toNat)
 case atStart => exact ⟨0,ss,Nat.zero_le _,rfl,HO⟩
 case round =>
  clear HO;obtain ⟨a,zs,ha,rfl,hO⟩:=hrel
  by_cases hal:a < n∧a < len1
  ·obtain ⟨hal,hal1⟩:=hal
   have halz:(a:Int) < (n:Int):=by omega
   have halz1:(a:Int) < (len1:Int):=by omega
   obtain ⟨bt,ot,rfl,hct⟩:=(HBT.out.below hO.out.bel) (by omega)
   have hc:=hct a hal1;obtain ⟨g,hq,hwg,hrs⟩:=hO.out.row (by omega)
   subst hq;obtain ⟨T,hTv⟩:∃ T:Nat,(ts.getD a 0).toNat=T:=⟨_,rfl⟩;have hT256:T < 256:=by rw [← hTv];exact (ts.getD a 0).toNat_lt
   rw [hTv] at hc;have q1:IntKind.i64.wrap (T:Int)=(T:Int):=by rw [IntKind.wrap_i64];omega
   have q2:IntKind.i64.wrap ((n:Int) - (a:Int))=(n:Int) - (a:Int):=by rw [IntKind.wrap_i64];omega
   have q3:¬ ((n:Int) - (a:Int)=0):=by omega
   obtain ⟨K,q4,hK,haK⟩:∃ K:Nat,IntKind.i64.wrap ((a:Int)+(T:Int) % ((n:Int) - (a:Int)))=(K:Int)∧K < n∧a≤K:=by
    have h1:=Int.emod_nonneg (T:Int) q3;have h2:=Int.emod_lt_of_pos (T:Int) (show (0:Int) < (n:Int) - (a:Int) by omega)
    refine ⟨a+((T:Int) % ((n:Int) - (a:Int))).toNat,?_,by omega,by omega⟩
    rw [IntKind.wrap_i64]
    all_goals omega
   have hKz:(K:Int) < (n:Int):=by omega
   have hzl:=hO.out.slen;have hcu:=hrs.at (show a < zs.length by omega)
   have hcv:=hrs.at (show K < zs.length by omega)
   have HSW:Hid (MixI w ((wr.setCell ⟨g,a,none⟩ (.string (str (zs.getD K [])))).setCell ⟨g,K,none⟩ (.string (str (zs.getD a [])))) (pathsN xs) (some ⟨g,0,none⟩) n ((zs.set a (zs.getD K [])).set K (zs.getD a []))):=Lib.hid (hO.out.swap rfl hwg hrs hal hK);obtain ⟨u,hu⟩:∃ u,zs.getD a []=u:=⟨_,rfl⟩;obtain ⟨v,hv⟩:∃ v,zs.getD K []=v:=⟨_,rfl⟩;rw [hu] at hcu HSW;rw [hv] at hcv HSW;have HE:Hid (a=K → v=u):=Lib.hid (fun h => by rw [← hu,← hv,h])
   obtain ⟨c0,f0⟩:=hcu;obtain ⟨d0,g0⟩:=hcv;clear hct hTv hu hv hzl hrs
   by_cases hKa:a=K
   ·subst hKa
    have hvu:=HE.out rfl;subst hvu;clear d0 g0
    go_upto_region 6 with fail
    clear q1 q2 q3 q4 hc
    go_region
    go_wp2
    go_roundw
    case rel => exact ⟨a+1,_,by omega,by go_num,Lib.hid HSW.out.drew⟩
    case measure => simp [RowKit.intOf];omega
   ·have haK2:a < K:=by omega
    go_upto_region 6 with fail
    clear q1 q2 q3 q4 hc
    go_region
    go_wp2
    go_roundw
    case rel => exact ⟨a+1,_,by omega,by go_num,Lib.hid HSW.out.drew⟩
    case measure => simp [RowKit.intOf];omega
  ·have FIN:Hid (zs.Perm (pathsN xs)∧n≤d∧d≤maxLen∧StrsAt wr q n zs∧Below w.heap.size w wr):=Lib.hid ⟨hO.out.perm,HD.out.1,HD.out.2,hO.out.strs,hO.out.bel⟩
   have hcond:¬ ((a:Int) < (n:Int)) ∨ ((a:Int) < (n:Int))∧¬ ((a:Int) < (len1:Int)):=by omega
   rcases hcond with hcn | ⟨hcn,hcn1⟩
   all_goals
    go_wp2
    go_ret
    exact ⟨q,d,zs,rfl,FIN.out⟩
end Go.Proofs.YtfhelebejclalaaDoor.Lnk
end
section
namespace Go.Proofs.YtfhelebejclalaaDoor.Tre
open Go.ChangeShapes Go.WideShapes Go.ChangeAt Go.RowKit Base Byt Txt Bk Rec Block Mem Go.Lib
set_option linter.unusedVariables false
set_option maxRecDepth 100000
structure OwnJ (w wr:World) (xs:List NP) (k:Nat) (o:Value) (ys:List NP):Prop where
 bel:Below w.heap.size w wr
 row:wr.ownsRow w.heap.size 45 9 o ys.length (flatN ys)
 len:ys.length=k
 same:ys.map NP.m=(xs.take k).map NP.m
 bodies:∀ y ∈ ys,BodAt wr y
 off:∀ y ∈ ys,0 < y.m.body.length → ∀ z,y.p=some z → o.ownBlock≠some z.block
section
variable {w wr w':World} {xs ys:List NP} {k:Nat} {o:Value}
theorem OwnJ.below (h:OwnJ w wr xs k o ys) (hb:Below wr.heap.size wr w'):OwnJ w w' xs k o ys where
 bel:=h.bel.trans (hb.mono h.bel.size)
 row:=row_below h.row hb
 len:=h.len
 same:=h.same
 bodies:=fun y hy => (h.bodies y hy).below hb
 off:=h.off
theorem OwnJ.add (h:OwnJ w wr xs k o ys) (hk:k < xs.length) {y:NP} (hy:y.m=(xs.getD k zeroQ).m) (hb:BodAt wr y) (ho:0 < y.m.body.length → ∀ z,y.p=some z → o.ownBlock≠some z.block)
 {o':Value} (hrow:w'.ownsRow w.heap.size 45 9 o' (ys++[y]).length (flatN (ys++[y]))) (hg:wr.grownBy w' o.ownBlock) (hn:NewOr wr o o'):OwnJ w w' xs (k+1) o' (ys++[y]):=by
 have hK:Kept (fun b => o.ownBlock=some b) wr w':=(Kept.refl _ wr).grown hg (fun k hk => .inr hk)
 have lt:∀ {b:Nat},o'.ownBlock=some b → b < wr.heap.size → o.ownBlock=some b:=fun hb hlt => by
  rcases hn _ hb with h | h
  ·exact h
  ·omega
 have all:∀ x ∈ ys++[y],BodAt wr x∧(0 < x.m.body.length → ∀ z,x.p=some z → o.ownBlock≠some z.block):=fun x hx => by
  rcases List.mem_append.1 hx with hx | hx
  ·exact ⟨h.bodies x hx,h.off x hx⟩
  ·rw [List.mem_singleton.1 hx]
   exact ⟨hb,ho⟩
 exact
 { bel:=h.bel.trans (hK.below h.bel.size (fun k hk => (World.ownsRow.lt h.row _ hk).1))
   row:=hrow
   len:=by rw [List.length_append,h.len];rfl
   same:=by rw [List.map_append,h.same,takeN_succ xs k hk,← hy];rfl
   bodies:=fun x hx => (all x hx).1.kept hK (fun h0 z hz => (all x hx).2 h0 z hz)
   off:=fun x hx h0 z hz e => (all x hx).2 h0 z hz (lt e (bat_lt (all x hx).1.bat h0 hz)) }
end
end Go.Proofs.YtfhelebejclalaaDoor.Tre
end
