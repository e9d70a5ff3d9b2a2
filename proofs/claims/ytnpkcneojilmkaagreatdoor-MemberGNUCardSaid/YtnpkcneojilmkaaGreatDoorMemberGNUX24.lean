/- Texts of this seat, merged: what the proof reaches. -/
import Derived.Test.YtnpkcneojilmkaaGreatDoorMemberGNUX23
import Derived.Test.YtnpkcneojilmkaaGreatDoorMemberGNUX11
import Derived.Lib.ParseIntB
import Derived.Lib.AtoiTie
import Derived.Lib.ItoaNum
import Derived.Lib.IndexLaws
import Derived.Lib.AtoiAll
import Derived.Lib.SlTrimSet
import Derived.Test.YtnpkcneojilmkaaGreatDoorMemberGNUX12
import Derived.Test.YtnpkcneojilmkaaGreatDoorMemberGNUX1
import Derived.Test.YtnpkcneojilmkaaGreatDoorMemberGNUX19
import Derived.Lib.LaidTab
import Derived.Deep.Draws
import Derived.Shelf.RegionOpenPlain
import Derived.Test.YtnpkcneojilmkaaGreatDoorMemberGNUX6
import Derived.Test.YtnpkcneojilmkaaGreatDoorMemberGNUX10
import Derived.BigQuiet
import Derived.Test.YtnpkcneojilmkaaGreatDoorMemberGNUX7
import Derived.Test.YtnpkcneojilmkaaGreatDoorMemberGNUX13
import Derived.Lib.SlBytesConst
section
namespace Go.Proofs.YtnpkcneojilmkaaGreatDoor.Rec
open Go.Lib Path
set_option linter.unusedVariables false
theorem parseM_few (l:List UInt8):∀ acc k,acc < 10 ^ k → k+l.length≤18 → parseUintM (2 ^ 64 - 1) acc l=if l.all isDig then .ok (l.foldl (fun n b => n * 10+(b.toNat - 48)) acc) else NumEnd.ofOption none:=by
 induction l with
 | nil => intro acc k _ _;rfl
 | cons c r ih =>
   intro acc k h1 h2;rw [List.length_cons] at h2;have hp:10 ^ k≤10 ^ 17:=Nat.pow_le_pow_right (by omega) (by omega)
   have hp2:(10:Nat) ^ 17=100000000000000000:=by decide
   rw [hp2] at hp;rw [parseUintM,List.all_cons,List.foldl_cons]
   by_cases hc:48≤c.toNat∧c.toNat≤57
   ·have hd:isDig c=true:=by simp [isDig,hc]
    rw [if_pos hc,if_neg (by omega),if_neg (by have:(2:Nat) ^ 64 - 1=18446744073709551615:=by decide
                                               omega),hd,Bool.true_and]
    exact ih _ (k+1) (by rw [Nat.pow_succ];omega) (by omega)
   ·have hd:isDig c=false:=by simp [isDig];omega
    rw [if_neg hc,hd];rfl
theorem parse_few (l:List UInt8) (h1:1≤l.length) (h2:l.length≤18):parseUintB 64 l=if l.all isDig then .ok (valL l) else NumEnd.ofOption none:=by
 unfold parseUintB;rw [if_neg (by rintro rfl;simp at h1),parseM_few l 0 0 (by decide) (by omega)]
 rfl
def numD (l:List UInt8):Option Nat:=if l.length < 1 ∨ 7 < l.length ∨ l.getD 0 0=48 then none else if l.all isDig then some (valL l) else none
theorem numD_some {l:List UInt8} {m:Nat} (h:numD l=some m):1≤l.length∧l.length≤7∧l.getD 0 0≠48∧(∀ b ∈ l,isDig b=true)∧m=valL l∧m < 10000000:=by
 unfold numD at h
 split at h
 ·cases h
 ·next h1 =>
  split at h
  ·next h2 =>
   cases h
   have h3:=List.all_eq_true.1 h2;refine ⟨by omega,by omega,fun e => h1 (.inr (.inr e)),h3,rfl,?_⟩
   have h4:=valL_lt l h3;have h5:10 ^ l.length≤10 ^ 7:=Nat.pow_le_pow_right (by omega) (by omega)
   have h6:(10:Nat) ^ 7=10000000:=by decide
   omega
  ·cases h
def cutD (l:List UInt8):Option (List UInt8 × Nat):=
 if indexByte l 32 < 0 then none
 else match numD (l.take (indexByte l 32).toNat) with
 | none => none
 | some m =>
   if m < (indexByte l 32).toNat+4 ∨ l.length < m ∨ l.getD (m - 1) 0≠10 then none
   else some ((l.drop ((indexByte l 32).toNat+1)).take (m - 1 - ((indexByte l 32).toNat+1)),m)
theorem digN_blank (l:List UInt8) (i:Nat) (hi:indexByte l 32=i):i < l.length∧l.getD i 0=32∧(∀ j,j < i → l.getD j 0≠32):=by
 have h1:=Lib.indexByte_some hi;have h2:=(List.getElem?_eq_some_iff.1 h1.1).1;refine ⟨h2,by rw [List.getD,h1.1];rfl,fun j hj e => ?_⟩
 have h3:=h1.2 j hj;have h4:j < l.length:=by omega
 rw [List.getD,List.getElem?_eq_getElem h4] at e;rw [List.getElem?_eq_getElem h4] at h3;exact h3 (by rw [← e];rfl)
theorem recStep_cutD (R T:Int) (l:List UInt8):recStep R T l=match cutD l with
 | none => .error R
 | some (t,m) => if indexByte t 61 < 1 then .error R else if textD t=false then .error T else .ok (t.take (indexByte t 61).toNat,t.drop ((indexByte t 61).toNat+1),m):=by
 obtain ⟨hN,hD⟩:=digN_take l;unfold cutD
 by_cases h0:indexByte l 32 < 0
 ·rw [if_pos h0]
  simp only;unfold recStep;rw [if_pos];have hn:indexByte l 32 = -1:=by have:=Lib.indexByte_ge l 32;omega
  by_cases hl:digN l=l.length
  ·exact .inr (.inr (.inr (.inl hl)))
  ·refine .inr (.inr (.inr (.inr fun e => ?_)))
   have hc:l.contains 32=false:=by rw [← Txt.index_has,decide_eq_false (by omega)]
   exact Txt.has_false hc (digN l) (by omega) e
 ·rw [if_neg h0]
  obtain ⟨i,hi⟩:∃ i:Nat,indexByte l 32=i:=⟨(indexByte l 32).toNat,by omega⟩
  obtain ⟨hil,hi32,hbef⟩:=digN_blank l i hi;rw [hi,Int.toNat_natCast];have htl:(l.take i).length=i:=by rw [List.length_take];omega
  have hgt:∀ j,j < i → (l.take i).getD j 0=l.getD j 0:=fun j hj => by
   rw [List.getD,List.getD,List.getElem?_take,if_pos hj]
  cases hnum:numD (l.take i) with
  | none =>
    simp only;unfold recStep;rw [if_pos]
    by_cases ha:(l.take i).all isDig=true
    ·have hdi:digN l=i:=digN_is l i (by omega) (fun j hj => by
      rw [← hgt j hj];have:j < (l.take i).length:=by omega
      rw [List.getD,List.getElem?_eq_getElem this]
      exact List.all_eq_true.1 ha _ (List.getElem_mem this)) (.inr (by rw [hi32];decide))
     unfold numD at hnum;rw [ha,if_pos rfl,htl] at hnum
     by_cases hc:i < 1 ∨ 7 < i ∨ (l.take i).getD 0 0=48
     ·rw [hdi]
      rcases hc with h | h | h
      ·exact .inl h
      ·exact .inr (.inl h)
      ·by_cases hi1:i < 1
       ·exact .inl hi1
       ·rw [hgt 0 (by omega)] at h
        exact .inr (.inr (.inl h))
     ·rw [if_neg hc] at hnum
      cases hnum
    ·
     have hlt:digN l < i:=by
      rcases Nat.lt_or_ge (digN l) i with h | h
      ·exact h
      ·exfalso
       refine ha (List.all_eq_true.2 fun b hb => hD b ?_)
       obtain ⟨j,hj,rfl⟩:=List.mem_iff_getElem.1 hb;rw [List.getElem_take];have hj2:j < (l.take (digN l)).length:=by rw [List.length_take];omega
       have:(l.take (digN l))[j]=l[j]'(by omega):=List.getElem_take
       rw [← this];exact List.getElem_mem hj2
     exact .inr (.inr (.inr (.inr (hbef _ hlt))))
  | some m =>
    obtain ⟨n1,n7,n48,ndig,nval,_⟩:=numD_some hnum;rw [htl] at n1 n7;rw [hgt 0 (by omega)] at n48
    have hdi:digN l=i:=digN_is l i (by omega) (fun j hj => by
     rw [← hgt j hj];have:j < (l.take i).length:=by omega
     rw [List.getD,List.getElem?_eq_getElem this]
     exact ndig _ (List.getElem_mem this)) (.inr (by rw [hi32];decide))
    simp only;unfold recStep
    rw [hdi,← nval,if_neg (by
     rintro (e | e | e | e | e)
     ·omega
     ·omega
     ·exact n48 e
     ·omega
     ·exact e hi32)]
    by_cases hc:m < i+4 ∨ l.length < m ∨ l.getD (m - 1) 0≠10
    ·rw [if_pos hc,if_pos (by
      rcases hc with h | h | h
      ·exact .inr (.inl h)
      ·exact .inl h
      ·exact .inr (.inr h))]
    ·rw [if_neg hc,if_neg (by
      rintro (e | e | e)
      ·exact hc (.inr (.inl e))
      ·exact hc (.inl e)
      ·exact hc (.inr (.inr e)))]
end Go.Proofs.YtnpkcneojilmkaaGreatDoor.Rec
end
section
namespace Go.Proofs.YtnpkcneojilmkaaGreatDoor.Attr
open Go.Lib Rec Hp
set_option linter.unusedVariables false
abbrev RecL:=List (List UInt8 × List UInt8)
def lastD:RecL → List UInt8 → Option (List UInt8)
 | [],_ => none
 | r :: rs,k => match lastD rs k with
   | some v => some v
   | none => if r.1=k then some r.2 else none
theorem lastD_app (a b:RecL) (k:List UInt8):lastD (a++b) k=match lastD b k with
 | some v => some v
 | none => lastD a k:=by
 induction a with
 | nil => cases h:lastD b k<;>simp [lastD,h]
 | cons r a ih =>
   rw [List.cons_append,lastD,ih]
   cases h:lastD b k with
   | some v => rfl
   | none => rfl
theorem lastD_snoc (a:RecL) (r:List UInt8 × List UInt8) (k:List UInt8):lastD (a++[r]) k=if r.1=k then some r.2 else lastD a k:=by
 rw [lastD_app]
 by_cases h:r.1=k<;>simp [lastD,h]
theorem lastD_none {rs:RecL} {k:List UInt8} (h:∀ r ∈ rs,r.1≠k):lastD rs k=none:=by
 induction rs with
 | nil => rfl
 | cons r rs ih =>
   rw [lastD,ih fun x hx => h x (List.mem_cons_of_mem _ hx)]
   simp [h r (List.mem_cons_self ..)]
theorem lastD_mem {rs:RecL} {k v:List UInt8} (h:lastD rs k=some v):∃ r ∈ rs,r.1=k∧r.2=v:=by
 induction rs with
 | nil => cases h
 | cons r rs ih =>
   rw [lastD] at h
   cases hl:lastD rs k with
   | some u =>
     rw [hl] at h ih;obtain ⟨x,hx,h1⟩:=ih h;exact ⟨x,List.mem_cons_of_mem _ hx,h1⟩
   | none =>
     rw [hl] at h
     by_cases hk:r.1=k
     ·simp only [hk,if_true] at h
      exact ⟨r,List.mem_cons_self ..,hk,Option.some.inj h⟩
     ·simp [hk] at h
def valueD (F:List UInt8 → Option (List UInt8)) (own:RecL) (k:List UInt8):List UInt8:=match lastD own k with
 | some v => v
 | none => (F k).getD []
def noneF:List UInt8 → Option (List UInt8):=fun _ => none
def moreF (F:List UInt8 → Option (List UInt8)) (rs:RecL):List UInt8 → Option (List UInt8):=fun k => match lastD rs k with
 | some v => some v
 | none => F k
theorem moreF_nil (F:List UInt8 → Option (List UInt8)):moreF F []=F:=rfl
theorem moreF_snoc (F:List UInt8 → Option (List UInt8)) (rs:RecL) (r:List UInt8 × List UInt8):moreF F (rs++[r])=fun k => if k=r.1 then some r.2 else moreF F rs k:=by
 funext k
 unfold moreF;rw [lastD_snoc]
 by_cases h:k=r.1
 ·simp [h]
 ·have:¬ r.1=k:=fun e => h e.symm
  simp [h,this]
theorem moreF_more (F:List UInt8 → Option (List UInt8)) (a b:RecL):moreF (moreF F a) b=moreF F (a++b):=by
 funext k
 unfold moreF;rw [lastD_app]
 cases lastD b k<;>rfl
theorem moreF_none (rs:RecL):moreF noneF rs=lastD rs:=by
 funext k
 unfold moreF noneF
 cases lastD rs k<;>rfl
def secD (l:List UInt8):Option Nat:=
 if 0≤indexByte l 46 then (if (l.drop ((indexByte l 46).toNat+1)).all isDig then wholeD (l.take (indexByte l 46).toNat) else none) else wholeD l
def keyT:Nat → List UInt8
 | 0 => [117,105,100] | 1 => [103,105,100] | 2 => [109,116,105,109,101] | 3 => [115,105,122,101] | 4 => [112,97,116,104] | _ => [108,105,110,107,112,97,116,104]
def numD1 (time:Bool) (v:List UInt8) (old:Int):Option Int:=
 if v=[] then some old else Option.map Int.ofNat (if time then secD v else wholeD v)
def textD1 (v old:List UInt8):List UInt8:=if v=[] then old else v
def applyV (V:Nat → List UInt8) (h:HeadV):HeadV × Int:=
 match numD1 false (V 0) h.uid,numD1 false (V 1) h.gid,numD1 true (V 2) h.time,numD1 false (V 3) h.size with
 | some u,some g,some t,some s => ({ h with name:=textD1 (V 4) h.name,link:=textD1 (V 5) h.link,uid:=u,gid:=g,time:=t,size:=s },0)
 | _,_,_,_ => (zeroH,4)
def applyD (F:List UInt8 → Option (List UInt8)) (own:RecL) (h:HeadV):HeadV × Int:=applyV (fun i => valueD F own (keyT i)) h
theorem applyD_congr {F G:List UInt8 → Option (List UInt8)} {a b:RecL} (h:HeadV) (hk:∀ i,i < 6 → valueD F a (keyT i)=valueD G b (keyT i)):applyD F a h=applyD G b h:=by
 unfold applyD applyV;simp only [hk 0 (by omega),hk 1 (by omega),hk 2 (by omega),hk 3 (by omega),hk 4 (by omega),hk 5 (by omega)]
theorem applyD_empty {F:List UInt8 → Option (List UInt8)} {a:RecL} (h:HeadV) (hk:∀ i,i < 6 → valueD F a (keyT i)=[]):applyD F a h=(h,0):=by
 unfold applyD applyV;simp only [hk 0 (by omega),hk 1 (by omega),hk 2 (by omega),hk 3 (by omega),hk 4 (by omega),hk 5 (by omega),numD1,textD1,if_true]
theorem decFrom_dig (l:List UInt8) (h:∀ b ∈ l,isDig b=true):∀ acc,decFrom acc l=some (l.foldl (fun n b => n * 10+(b.toNat - 48)) acc):=by
 induction l with
 | nil => intro acc;rfl
 | cons c l ih =>
   intro acc;have hc:=h c (List.mem_cons_self ..);simp only [isDig,decide_eq_true_eq] at hc
   have hd:digitVal c=some (c.toNat - 48):=by
    simp [digitVal];omega
   rw [decFrom,hd];exact ih (fun b hb => h b (List.mem_cons_of_mem _ hb)) _
theorem atoi_dig (l:List UInt8) (h0:l≠[]) (h:∀ b ∈ l,isDig b=true):atoi l=some (valL l:Int):=by
 cases l with
 | nil => exact absurd rfl h0
 | cons c l =>
   have hc:=h c (List.mem_cons_self ..);simp only [isDig,decide_eq_true_eq] at hc;have h45:(c == 45)=false:=beq_eq_false_iff_ne.2 fun e => by subst e;exact absurd hc.1 (by decide)
   have h43:(c == 43)=false:=beq_eq_false_iff_ne.2 fun e => by subst e;exact absurd hc.1 (by decide)
   unfold atoi;simp only [h45,h43,decNat,List.isEmpty_cons,decFrom_dig _ h];rfl
theorem trim_dig (l:List UInt8):(trimS l [48,49,50,51,52,53,54,55,56,57]=[]) ↔ ∀ b ∈ l,isDig b=true:=by
 have hd:∀ b:UInt8,([48,49,50,51,52,53,54,55,56,57]:List UInt8).contains b=isDig b:=fun b => by
  rw [Bool.eq_iff_iff];simp only [List.contains_iff_mem,isDig,decide_eq_true_eq,List.mem_cons,List.not_mem_nil,or_false];constructor
  ·rintro (rfl | rfl | rfl | rfl | rfl | rfl | rfl | rfl | rfl | rfl)<;>decide
  ·intro h
   have e:∀ n:Nat,b.toNat=n → b=UInt8.ofNat n:=fun n hn => by rw [← hn];simp
   have:b.toNat=48 ∨ b.toNat=49 ∨ b.toNat=50 ∨ b.toNat=51 ∨ b.toNat=52 ∨ b.toNat=53 ∨ b.toNat=54 ∨ b.toNat=55 ∨ b.toNat=56 ∨ b.toNat=57:=by omega
   rcases this with h | h | h | h | h | h | h | h | h | h<;>(have:=e _ h;subst this;decide)
 have e1:∀ l:List UInt8,l.dropWhile (([48,49,50,51,52,53,54,55,56,57]:List UInt8).contains ·)=[] ↔ ∀ b ∈ l,isDig b=true:=fun l => by
  induction l with
  | nil => simp
  | cons c l ih =>
    rw [List.dropWhile_cons]
    by_cases hc:isDig c=true
    ·rw [if_pos (by rw [hd];exact hc),ih]
     simp [hc]
    ·rw [if_neg (by rw [hd];exact hc)]
     simp [hc]
 have e2:∀ l:List UInt8,(∃ b ∈ l,isDig b=false) → ∃ b ∈ trimRightS l [48,49,50,51,52,53,54,55,56,57],isDig b=false:=fun l h => by
  unfold trimRightS;obtain ⟨b,hb,hbd⟩:=h
  have:∀ m:List UInt8,b ∈ m → b ∈ m.dropWhile (([48,49,50,51,52,53,54,55,56,57]:List UInt8).contains ·):=fun m => by
   induction m with
   | nil => intro h;exact h
   | cons c m ih =>
     intro hm;rw [List.dropWhile_cons]
     by_cases hc:isDig c=true
     ·rw [if_pos (by rw [hd];exact hc)]
      rcases List.mem_cons.1 hm with rfl | hm
      ·rw [hbd] at hc;cases hc
      ·exact ih hm
     ·rw [if_neg (by rw [hd];exact hc)]
      exact hm
  exact ⟨b,List.mem_reverse.2 (this _ (List.mem_reverse.2 hb)),hbd⟩
 unfold trimS trimLeftS;rw [e1];constructor
 ·intro h b hb
  cases hbd:isDig b with
  | true => rfl
  | false =>
    obtain ⟨c,hc,hcd⟩:=e2 l ⟨b,hb,hbd⟩;rw [h c hc] at hcd
    cases hcd
 ·intro h b hb
  refine h b ?_
  unfold trimRightS at hb;exact List.mem_reverse.1 ((List.dropWhile_suffix _).subset (List.mem_reverse.1 hb))
end Go.Proofs.YtnpkcneojilmkaaGreatDoor.Attr
end
section
namespace Go.Proofs.YtnpkcneojilmkaaGreatDoor.Mem
open Go.Lib Fp Hp Path Rec Attr
set_option linter.unusedVariables false
structure MemV where
 path:List UInt8
 target:List UInt8
 kind:UInt8
 mode:Int
 uid:Int
 gid:Int
 time:Int
 body:List UInt8
deriving instance DecidableEq for MemV
def metaOk (mode uid gid time:Int):Bool:=decide (0≤mode∧mode≤4095∧0≤uid∧uid < 2147483648∧0≤gid∧gid < 2147483648∧0≤time∧time≤1099511627776)
def cleanOk (l:List UInt8):Bool:=decide (cleanD 9 6 l=(l,0))
def goodD (m:MemV):Bool:=
 cleanOk m.path && metaOk m.mode m.uid m.gid m.time && decide (m.body.length≤1048576) && (m.kind == 48 || m.body == []) &&
  (if m.kind=48 ∨ m.kind=53 then m.target == [] else if m.kind=49 then cleanOk m.target else if m.kind=50 then decide (targetD 9 6 m.target=0) else false)
structure RS where
 out:List MemV
 glob:RecL
 own:RecL
 name:Option (List UInt8)
 link:Option (List UInt8)
 hasX:Bool
inductive Step where
 | fault (e:Int)
 | done
 | next (k:Nat) (s:RS)
def blocksOf (n:Nat):Nat:=(n+511) / 512 * 512
def bodyN (l:List UInt8) (n:Int):Option (List UInt8 × Nat):=
 if 2097152 < n ∨ l.length - 512 < blocksOf n.toNat then none else some ((l.drop 512).take n.toNat,512+blocksOf n.toNat)
def extD (l:List UInt8) (h:HeadV) (s:RS):Step:=
 if (h.kind=120∧s.hasX=true) ∨ (h.kind=76∧s.name.isSome=true) ∨ (h.kind=75∧s.link.isSome=true) then .fault 5
 else if 1048576 < h.size then .fault 10
 else match bodyN l h.size with
  | none => .fault 2
  | some (t,k) =>
    if h.kind=76 then .next k { s with name:=some (untilB t) }
    else if h.kind=75 then .next k { s with link:=some (untilB t) }
    else if (recsD 5 9 t).2≠0 then .fault (recsD 5 9 t).2
    else if h.kind=103 then .next k { s with glob:=s.glob++(recsD 5 9 t).1 }
    else .next k { s with hasX:=true,own:=(recsD 5 9 t).1 }
def memOf (h:HeadV) (s:RS):Except Int (MemV × Int):=
 let a:=applyD (lastD s.glob) s.own { h with name:=s.name.getD h.name,link:=s.link.getD h.link }
 let c:=cleanD 9 6 a.1.name
 let d:=cleanD 9 6 a.1.link
 let t:=targetD 9 6 a.1.link
 if a.2≠0 then .error a.2
 else if c.2≠0 then .error c.2
 else if metaOk a.1.mode a.1.uid a.1.gid a.1.time=false then .error 4
 else if a.1.kind=49∧d.2≠0 then .error d.2
 else if a.1.kind=50∧t≠0 then .error t
 else if a.1.kind≠48∧a.1.size≠0 then .error 4
 else if 1048576 < a.1.size then .error 10
 else .ok (⟨c.1,if a.1.kind=49 then d.1 else if a.1.kind=50 then a.1.link else [],a.1.kind,a.1.mode,a.1.uid,a.1.gid,a.1.time,[]⟩,a.1.size)
def memD (l:List UInt8) (h:HeadV) (s:RS):Step:=
 if 4096≤s.out.length then .fault 10
 else if h.kind≠48∧h.kind≠49∧h.kind≠50∧h.kind≠53 then .fault 8
 else match memOf h s with
  | .error e => .fault e
  | .ok (m,n) => match bodyN l n with
    | none => .fault 2
    | some (t,k) => .next k { s with out:=s.out++[{ m with body:=t }],own:=[],name:=none,link:=none,hasX:=false }
def zeroB (l:List UInt8):Bool:=l.all (· == 0)
def isExt (k:UInt8):Bool:=k == 120 || k == 103 || k == 76 || k == 75
def stepD (l:List UInt8) (s:RS):Step:=
 if l.length < 512 then .fault 2
 else if zeroB (l.take 512) then
  if l.length - 512 < 512 then .fault 2
  else if zeroB (l.drop 512)=false then .fault 9
  else if s.hasX=true ∨ s.name.isSome=true ∨ s.link.isSome=true then .fault 5
  else .done
 else if (headR (l.take 512)).2≠0 then .fault (headR (l.take 512)).2
 else if isExt (headR (l.take 512)).1.kind then extD l (headR (l.take 512)).1 s
 else memD l (headR (l.take 512)).1 s
def readGo:Nat → List UInt8 → Nat → RS → List MemV × Int × Nat
 | 0,_,_,_ => ([],2,0)
 | f+1,l,at_,s => match stepD l s with
   | .fault e => ([],e,at_)
   | .done => (s.out,0,0)
   | .next k s' => readGo f (l.drop k) (at_+k) s'
def readFrom (l:List UInt8) (at_:Nat) (s:RS):List MemV × Int × Nat:=readGo (l.length+1) l at_ s
def startS:RS:=⟨[],[],[],none,none,false⟩
def membersD (b:List UInt8):List MemV × Int × Nat:=readFrom b 0 startS
theorem bodyN_spec {l t:List UInt8} {n:Int} {k:Nat} (h:bodyN l n=some (t,k)):k=512+blocksOf n.toNat∧blocksOf n.toNat≤l.length - 512∧t=(l.drop 512).take n.toNat∧n≤2097152:=by
 unfold bodyN at h
 split at h
 ·cases h
 ·cases h
  exact ⟨rfl,by omega,rfl,by omega⟩
theorem step_next {l:List UInt8} {s s':RS} {k:Nat} (h:stepD l s=.next k s'):512≤k∧k≤l.length:=by
 unfold stepD at h
 split at h
 ·cases h
 ·rename_i h512
  split at h
  ·split at h
   ·cases h
   ·split at h
    ·cases h
    ·split at h<;>cases h
  ·split at h
   ·cases h
   ·split at h
    ·unfold extD at h
     split at h
     ·cases h
     ·split at h
      ·cases h
      ·split at h
       ·cases h
       ·rename_i t k' hb
        obtain ⟨h1,h2,_,_⟩:=bodyN_spec hb
        have hk:k=k':=by
         split at h
         ·cases h;rfl
         ·split at h
          ·cases h;rfl
          ·split at h
           ·cases h
           ·split at h<;>(cases h;rfl)
        omega
    ·unfold memD at h
     split at h
     ·cases h
     ·split at h
      ·cases h
      ·split at h
       ·cases h
       ·split at h
        ·cases h
        ·rename_i t k' hb
         obtain ⟨h1,h2,_,_⟩:=bodyN_spec hb
         cases h
         omega
theorem readGo_fuel (n:Nat):∀ m l at_ s,l.length < n → l.length < m → readGo n l at_ s=readGo m l at_ s:=by
 induction n with
 | zero => intro m l at_ s h;omega
 | succ n ih =>
   intro m l at_ s h1 h2
   cases m with
   | zero => omega
   | succ m =>
     rw [readGo,readGo]
     cases hs:stepD l s with
     | fault e => rfl
     | done => rfl
     | next k s' =>
       obtain ⟨g1,g2⟩:=step_next hs;exact ih m _ _ _ (by rw [List.length_drop];omega) (by rw [List.length_drop];omega)
theorem readFrom_step (l:List UInt8) (at_:Nat) (s:RS):readFrom l at_ s=match stepD l s with
 | .fault e => ([],e,at_)
 | .done => (s.out,0,0)
 | .next k s' => readFrom (l.drop k) (at_+k) s':=by
 unfold readFrom;rw [readGo]
 cases hs:stepD l s with
 | fault e => rfl
 | done => rfl
 | next k s' =>
   obtain ⟨g1,g2⟩:=step_next hs;exact readGo_fuel _ _ _ _ _ (by rw [List.length_drop];omega) (by omega)
theorem readFrom_fault {l:List UInt8} {s:RS} {e:Int} (h:stepD l s=.fault e) (at_:Nat):readFrom l at_ s=([],e,at_):=by rw [readFrom_step,h]
theorem readFrom_done {l:List UInt8} {s:RS} (h:stepD l s=.done) (at_:Nat):readFrom l at_ s=(s.out,0,0):=by rw [readFrom_step,h]
theorem readFrom_next {l:List UInt8} {s s':RS} {k:Nat} (h:stepD l s=.next k s') (at_:Nat):readFrom l at_ s=readFrom (l.drop k) (at_+k) s':=by rw [readFrom_step,h]
def fitsD (l:List UInt8):Bool:=l.all fun b => decide (b.toNat≤127)
def longN:List UInt8:=[64,108,111,110,103]
def paxN:List UInt8:=[64,112,97,120]
def paxH (n:Nat):HeadV:=⟨paxN,[],120,0,0,0,0,(n:Int),false⟩
def longP (m:MemV):Bool:=(cutR m.path).isNone || !fitsD m.path
def longL (m:MemV):Bool:=decide (100 < m.target.length) || !fitsD m.target
def headM (m:MemV):HeadV:=
 ⟨if longP m then longN else m.path,if longL m then longN else m.target,m.kind,m.mode,if 2097151 < m.uid then 0 else m.uid,if 2097151 < m.gid then 0 else m.gid,if 8589934591 < m.time then 0 else m.time,(m.body.length:Int),false⟩
def recsM (m:MemV):RecL:=
 (if longP m then [(keyT 4,m.path)] else [])++(if longL m then [(keyT 5,m.target)] else [])++(if 2097151 < m.uid then [(keyT 0,decL m.uid.toNat)] else []) ++
  (if 2097151 < m.gid then [(keyT 1,decL m.gid.toNat)] else [])++(if 8589934591 < m.time then [(keyT 2,decL m.time.toNat)] else [])
def padB (l:List UInt8):List UInt8:=l++List.replicate (blocksOf l.length - l.length) 0
def putM (m:MemV):List UInt8:=
 (if linesD (recsM m)=[] then [] else (putR (paxH (linesD (recsM m)).length)).getD []++padB (linesD (recsM m)))++((putR (headM m)).getD []++padB m.body)
def archD (ms:List MemV):List UInt8:=(ms.map putM).flatten++List.replicate 1024 0
theorem blocks_ge (n:Nat):n≤blocksOf n∧blocksOf n < n+512:=by unfold blocksOf;omega
theorem padB_length (l:List UInt8):(padB l).length=blocksOf l.length:=by
 have:=(blocks_ge l.length).1;simp only [padB,List.length_append,List.length_replicate];omega
theorem bodyN_pad (H body rest:List UInt8) (hH:H.length=512) (hb:body.length≤2097152):bodyN (H++(padB body++rest)) (body.length:Int)=some (body,512+blocksOf body.length):=by
 unfold bodyN;have hp:=padB_length body;rw [if_neg (by simp only [List.length_append,hH,hp,Int.toNat_natCast];omega),Int.toNat_natCast]
 congr 2
 rw [← hH,List.drop_left,padB,List.append_assoc,List.take_left'];rfl
theorem drop_pad (H body rest:List UInt8) (hH:H.length=512):(H++(padB body++rest)).drop (512+blocksOf body.length)=rest:=by
 rw [← hH,← padB_length,List.drop_append,List.drop_append];simp
end Go.Proofs.YtnpkcneojilmkaaGreatDoor.Mem
end
section
namespace Go.Proofs.YtnpkcneojilmkaaGreatDoor.Mem
open Go.Lib Fp Hp Path Rec Attr
set_option linter.unusedVariables false
theorem restD_zero (base:Int) (hb:0 < base):∀ (k:Nat) (n:Int),0≤n → n < base ^ k → restD base k n=0
 | 0,n,h0,h1 => by simp only [Int.pow_zero] at h1;simp only [restD];omega
 | k+1,n,h0,h1 => by
   rw [restD];refine restD_zero base hb k _ (Int.ediv_nonneg h0 (by omega)) (Int.ediv_lt_of_lt_mul hb ?_)
   rwa [Int.pow_succ] at h1
theorem putF8 {n:Int} (h0:0≤n) (h1:n < 2097152):(putF n 8).isSome=true:=by
 rw [putF_fits h0 (by omega) (by omega) (by omega) (restD_zero 8 (by omega) _ n h0 (by simpa using h1))];rfl
theorem putF12 {n:Int} (h0:0≤n) (h1:n < 8589934592):(putF n 12).isSome=true:=by
 rw [putF_fits h0 (by omega) (by omega) (by omega) (restD_zero 8 (by omega) _ n h0 (by simpa using h1))];rfl
theorem putR_is {h:HeadV} (hc:(cutR h.name).isSome=true) (hb:badH h=false) (hn:numsOk h=true):∃ H,putR h=some H∧H.length=512∧headR H=(h,0):=by
 obtain ⟨ps,hps⟩:=Option.isSome_iff_exists.1 hc
 have e:putR h=some (blockA (own2 h ps.1 ps.2)):=by
  unfold putR;rw [hps];simp [hb,hn]
 exact ⟨_,e,blockA_length _,headR_put e⟩
theorem ascii_text (l:List UInt8) (h:∀ b ∈ l,0 < b.toNat∧b.toNat < 128):textD l=true:=by
 induction l with
 | nil => exact textD_nil
 | cons c l ih =>
   obtain ⟨h1,h2⟩:=head_one c (h c (List.mem_cons_self ..)) l;rw [textD_step _ (by simp),if_pos h1,h2]
   exact ih fun b hb => h b (List.mem_cons_of_mem _ hb)
theorem text_nozero {l:List UInt8} (h:textD l=true):∀ x ∈ l,x≠0:=by
 rw [text_valid,Bool.and_eq_true,Bool.not_eq_true'] at h;intro x hx e;subst e;have:=h.2;rw [List.contains_eq_mem,decide_eq_false_iff_not] at this;exact this hx
theorem dec_text (n:Nat):textD (decL n)=true:=ascii_text _ fun b hb => by
 have:=decL_dig n b hb;simp only [isDig,decide_eq_true_eq] at this;omega
theorem dec_ne (n:Nat):decL n≠[]:=List.length_pos_iff.1 (decL_pos n)
theorem whole_dec {n:Nat} (h:n < 10 ^ 18):wholeD (decL n)=some n:=by
 have h1:=decL_pos n;have h2:=dec_le n 18 (by omega) h
 have h3:(decL n).all isDig=true:=List.all_eq_true.2 (decL_dig n);rw [wholeD,if_neg (by omega),if_pos h3,valL_dec]
theorem index_none (l:List UInt8) (c:UInt8) (h:c ∉ l):indexByte l c = -1:=by
 induction l with
 | nil => rfl
 | cons b l ih =>
   have hb:(b == c)=false:=beq_eq_false_iff_ne.2 fun e => h (by rw [e];exact List.mem_cons_self ..)
   have hi:=ih fun hc => h (List.mem_cons_of_mem _ hc)
   simp [indexByte,hb,hi]
theorem sec_dec {n:Nat} (h:n < 10 ^ 18):secD (decL n)=some n:=by
 have:indexByte (decL n) 46 = -1:=index_none _ _ fun hc => by
  have:=decL_dig n 46 hc;exact absurd this (by decide)
 rw [secD,this,if_neg (by omega),whole_dec h]
structure GoodM (m:MemV):Prop where
 path:cleanD 9 6 m.path=(m.path,0)
 pathT:textD m.path=true
 pathN:m.path≠[]
 pathL:m.path.length≤200
 mode:0≤m.mode∧m.mode≤4095
 uid:0≤m.uid∧m.uid < 2147483648
 gid:0≤m.gid∧m.gid < 2147483648
 time:0≤m.time∧m.time≤1099511627776
 body:m.body.length≤1048576
 file:m.kind≠48 → m.body=[]
 kind:m.kind=48 ∨ m.kind=49 ∨ m.kind=50 ∨ m.kind=53
 none:m.kind=48 ∨ m.kind=53 → m.target=[]
 hard:m.kind=49 → cleanD 9 6 m.target=(m.target,0)
 sym:m.kind=50 → targetD 9 6 m.target=0
 targT:textD m.target=true
 targL:m.target.length≤200
theorem clean_facts {l:List UInt8} (h:cleanD 9 6 l=(l,0)):textD l=true∧l≠[]∧l.length≤200:=by
 have h1:=(clean_ok 9 6 (by omega) (by omega) l l).1 h
 have h2:=clean_self 9 6 (by omega) (by omega) l l h
 exact ⟨h1.1,h2.2.1,h2.2.2.2⟩
theorem target_facts {l:List UInt8} (h:targetD 9 6 l=0):textD l=true∧l≠[]∧l.length≤200:=by
 unfold targetD at h
 split at h
 ·omega
 ·rename_i h1
  split at h
  ·omega
  ·rename_i h2
   simp only [not_or] at h2;exact ⟨by simpa using h1,h2.1,by omega⟩
theorem good_facts {m:MemV} (h:goodD m=true):GoodM m:=by
 simp only [goodD,Bool.and_eq_true,cleanOk,metaOk,decide_eq_true_eq,Bool.or_eq_true,beq_iff_eq] at h;obtain ⟨⟨⟨⟨h1,h2⟩,h3⟩,h4⟩,h5⟩:=h;obtain ⟨p1,p2,p3⟩:=clean_facts h1
 have hk:(m.kind=48 ∨ m.kind=49 ∨ m.kind=50 ∨ m.kind=53)∧((m.kind=48 ∨ m.kind=53) → m.target=[])∧(m.kind=49 → cleanD 9 6 m.target=(m.target,0))∧(m.kind=50 → targetD 9 6 m.target=0):=by
  split at h5
  ·rename_i hk
   refine ⟨by rcases hk with e | e<;>simp [e],fun _ => by simpa using h5,fun e => ?_,fun e => ?_⟩<;>(rw [e] at hk;exact absurd hk (by decide))
  ·rename_i hk
   split at h5
   ·rename_i hk2
    refine ⟨by simp [hk2],fun e => absurd e hk,fun _ => by simpa using h5,fun e => ?_⟩
    rw [hk2] at e;exact absurd e (by decide)
   ·rename_i hk2
    split at h5
    ·rename_i hk3
     exact ⟨by simp [hk3],fun e => absurd e hk,fun e => absurd e hk2,fun _ => by simpa using h5⟩
    ·cases h5
 obtain ⟨k1,k2,k3,k4⟩:=hk
 have ht:textD m.target=true∧m.target.length≤200:=by
  rcases k1 with e | e | e | e
  ·rw [k2 (.inl e)];exact ⟨textD_nil,by simp⟩
  ·have:=clean_facts (k3 e);exact ⟨this.1,this.2.2⟩
  ·have:=target_facts (k4 e);exact ⟨this.1,this.2.2⟩
  ·rw [k2 (.inr e)];exact ⟨textD_nil,by simp⟩
 exact ⟨h1,p1,p2,p3,by omega,by omega,by omega,by omega,h3,fun hn => h4.resolve_left hn,k1,k2,k3,k4,ht.1,ht.2⟩
theorem headM_put {m:MemV} (h:GoodM m):∃ H,putR (headM m)=some H∧H.length=512∧headR H=(headM m,0):=by
 refine putR_is ?_ ?_ ?_
 ·show (cutR (if longP m then longN else m.path)).isSome=true
  split
  ·rfl
  ·rename_i hp
   simp only [longP,Bool.or_eq_true,not_or,Bool.not_eq_true,Option.isNone_eq_false_iff] at hp;exact hp.1
 ·have hz1:(headM m).name.contains 0=false:=by
   show (if longP m then longN else m.path).contains 0=false
   split
   ·decide
   ·rw [List.contains_eq_mem,decide_eq_false_iff_not]
    exact fun hx => text_nozero h.pathT 0 hx rfl
  have hz2:(headM m).link.contains 0=false:=by
   show (if longL m then longN else m.target).contains 0=false
   split
   ·decide
   ·rw [List.contains_eq_mem,decide_eq_false_iff_not]
    exact fun hx => text_nozero h.targT 0 hx rfl
  have hl:(headM m).link.length≤100:=by
   show (if longL m then longN else m.target).length≤100
   split
   ·decide
   ·rename_i hp
    simp only [longL,Bool.or_eq_true,not_or,Bool.not_eq_true,decide_eq_false_iff_not] at hp;omega
  have hk:(m.kind == 0)=false:=by rcases h.kind with e | e | e | e<;>rw [e]<;>decide
  have hk':((headM m).kind == 0)=false:=hk;have hg:(headM m).gnu=false:=rfl;have hl':decide (100 < (headM m).link.length)=false:=decide_eq_false (by omega)
  simp only [badH,hz1,hz2,hk',hg,hl',Bool.or_false]
 ·refine numsOk_iff.2 fun i h1 h2 => ?_
  have hm:=h.mode;have hu:=h.uid;have hg:=h.gid;have ht:=h.time;have hb:=h.body;obtain rfl | rfl | rfl | rfl | rfl:i=1 ∨ i=2 ∨ i=3 ∨ i=4 ∨ i=5:=by omega
  ·exact putF8 (n:=m.mode) hm.1 (by omega)
  ·show (putF (if 2097151 < m.uid then 0 else m.uid) 8).isSome=true
   split
   ·exact putF8 (by omega) (by omega)
   ·exact putF8 hu.1 (by omega)
  ·show (putF (if 2097151 < m.gid then 0 else m.gid) 8).isSome=true
   split
   ·exact putF8 (by omega) (by omega)
   ·exact putF8 hg.1 (by omega)
  ·exact putF12 (n:=(m.body.length:Int)) (by omega) (by omega)
  ·show (putF (if 8589934591 < m.time then 0 else m.time) 12).isSome=true
   split
   ·exact putF12 (by omega) (by omega)
   ·exact putF12 ht.1 (by omega)
theorem ext_put (name:List UInt8) (hn:name.length≤100) (hz:name.contains 0=false) (k:UInt8) (hk:k≠0) (n:Nat) (hs:n≤1048576):∃ H,putR ⟨name,[],k,0,0,0,0,(n:Int),false⟩=some H∧H.length=512∧headR H=(⟨name,[],k,0,0,0,0,(n:Int),false⟩,0):=by
 refine putR_is (by rw [cutR_short hn];rfl) ?_ (numsOk_iff.2 fun i h1 h2 => ?_)
 ·have:(k == 0)=false:=beq_eq_false_iff_ne.2 hk
  simp only [badH,hz,this,List.length_nil,List.contains_nil,Bool.or_false];rfl
 ·obtain rfl | rfl | rfl | rfl | rfl:i=1 ∨ i=2 ∨ i=3 ∨ i=4 ∨ i=5:=by omega
  ·exact putF8 (n:=0) (by omega) (by omega)
  ·exact putF8 (n:=0) (by omega) (by omega)
  ·exact putF8 (n:=0) (by omega) (by omega)
  ·exact putF12 (n:=(n:Int)) (by omega) (by omega)
  ·exact putF12 (n:=0) (by omega) (by omega)
theorem paxH_put {n:Nat} (hs:n≤1048576):∃ H,putR (paxH n)=some H∧H.length=512∧headR H=(paxH n,0):=ext_put paxN (by decide) (by decide) 120 (by decide) n hs
theorem may_key (i:Nat) (hi:i < 6) {v:List UInt8} (h1:textD v=true) (h2:v.length≤200):mayD (keyT i) v=true:=by
 have hk:(keyT i).contains 61=false∧(keyT i).isEmpty=false∧textD (keyT i)=true∧(keyT i).length≤8:=by
  obtain rfl | rfl | rfl | rfl | rfl | rfl:i=0 ∨ i=1 ∨ i=2 ∨ i=3 ∨ i=4 ∨ i=5:=by omega
  all_goals exact ⟨by decide,by decide,ascii_text _ (by decide),by decide⟩
 obtain ⟨k1,k2,k3,k4⟩:=hk;simp only [mayD,k1,k2,k3,h1,Bool.not_false,Bool.true_and,decide_eq_true_eq];omega
theorem dec_len {n:Int} (h0:0≤n) (h:n≤1099511627776):(decL n.toNat).length≤18:=dec_le _ 18 (by omega) (by omega)
theorem recsM_may {m:MemV} (h:GoodM m):∀ r ∈ recsM m,mayD r.1 r.2=true:=by
 intro r hr;have hu:=h.uid;have hg:=h.gid;have ht:=h.time;simp only [recsM,List.mem_append] at hr
 have d:∀ (c:Prop) [Decidable c] (k v:List UInt8),r ∈ (if c then [(k,v)] else []) → r=(k,v):=fun c _ k v hr => by
  split at hr
  ·exact List.mem_singleton.1 hr
  ·cases hr
 rcases hr with (((hr | hr) | hr) | hr) | hr<;>(have e:=d _ _ _ hr;subst e)
 ·exact may_key 4 (by omega) h.pathT h.pathL
 ·exact may_key 5 (by omega) h.targT h.targL
 ·exact may_key 0 (by omega) (dec_text _) (by have:=dec_len hu.1 (by omega);show (decL _).length≤200;omega)
 ·exact may_key 1 (by omega) (dec_text _) (by have:=dec_len hg.1 (by omega);show (decL _).length≤200;omega)
 ·exact may_key 2 (by omega) (dec_text _) (by have:=dec_len ht.1 (by omega);show (decL _).length≤200;omega)
theorem recs_may_back {l:RecL} (h:∀ r ∈ l,mayD r.1 r.2=true):recsD 5 9 (linesD l)=(l,0):=by
 have:=recs_lines 5 9 l [] [] h;rw [List.append_nil,List.nil_append,recsFrom_nil] at this;exact this
theorem lines_le {n:Nat}:∀ {l:RecL},(∀ r ∈ l,mayD r.1 r.2=true∧r.1.length+r.2.length≤n) → (linesD l).length≤l.length * (n+10)
 | [],_ => by simp [linesD]
 | r :: l,h => by
   have ih:=lines_le fun x hx => h x (List.mem_cons_of_mem _ hx)
   obtain ⟨h1,h2⟩:=h r (List.mem_cons_self ..);obtain ⟨d,_,_,_,_,hd7,_,hlen⟩:=line_parts h1;have e:linesD (r :: l)=lineD r.1 r.2++linesD l:=by simp [linesD]
   rw [e,List.length_append,hlen,List.length_cons,Nat.succ_mul];omega
end Go.Proofs.YtnpkcneojilmkaaGreatDoor.Mem
end
section
namespace Go.Proofs.YtnpkcneojilmkaaGreatDoor.Mem
open Go.Lib Fp Hp Path Rec Attr
set_option linter.unusedVariables false
theorem lastD_if (c:Prop) [Decidable c] (k v q:List UInt8):lastD (if c then [(k,v)] else []) q=if c∧k=q then some v else none:=by
 by_cases h:c
 ·by_cases hk:k=q<;>simp [lastD,h,hk]
 ·simp [lastD,h]
theorem recsM_last (m:MemV):lastD (recsM m) (keyT 0)=(if 2097151 < m.uid then some (decL m.uid.toNat) else none)∧lastD (recsM m) (keyT 1)=(if 2097151 < m.gid then some (decL m.gid.toNat) else none) ∧
 lastD (recsM m) (keyT 2)=(if 8589934591 < m.time then some (decL m.time.toNat) else none)∧lastD (recsM m) (keyT 3)=none∧lastD (recsM m) (keyT 4)=(if longP m=true then some m.path else none) ∧
 lastD (recsM m) (keyT 5)=(if longL m=true then some m.target else none):=by
 unfold recsM;simp only [lastD_app,lastD_if];have e10:¬ keyT 1=keyT 0:=by decide
 have e20:¬ keyT 2=keyT 0:=by decide
 have e40:¬ keyT 4=keyT 0:=by decide
 have e50:¬ keyT 5=keyT 0:=by decide
 have e01:¬ keyT 0=keyT 1:=by decide
 have e21:¬ keyT 2=keyT 1:=by decide
 have e41:¬ keyT 4=keyT 1:=by decide
 have e51:¬ keyT 5=keyT 1:=by decide
 have e02:¬ keyT 0=keyT 2:=by decide
 have e12:¬ keyT 1=keyT 2:=by decide
 have e42:¬ keyT 4=keyT 2:=by decide
 have e52:¬ keyT 5=keyT 2:=by decide
 have e03:¬ keyT 0=keyT 3:=by decide
 have e13:¬ keyT 1=keyT 3:=by decide
 have e23:¬ keyT 2=keyT 3:=by decide
 have e43:¬ keyT 4=keyT 3:=by decide
 have e53:¬ keyT 5=keyT 3:=by decide
 have e04:¬ keyT 0=keyT 4:=by decide
 have e14:¬ keyT 1=keyT 4:=by decide
 have e24:¬ keyT 2=keyT 4:=by decide
 have e54:¬ keyT 5=keyT 4:=by decide
 have e05:¬ keyT 0=keyT 5:=by decide
 have e15:¬ keyT 1=keyT 5:=by decide
 have e25:¬ keyT 2=keyT 5:=by decide
 have e45:¬ keyT 4=keyT 5:=by decide
 simp only [e10,e20,e40,e50,e01,e21,e41,e51,e02,e12,e42,e52,e03,e13,e23,e43,e53,e04,e14,e24,e54,e05,e15,e25,e45,and_true,and_false,if_false];refine ⟨?_,?_,?_,?_,?_,?_⟩
 ·by_cases h:2097151 < m.uid<;>simp [h]
 ·by_cases h:2097151 < m.gid<;>simp [h]
 ·by_cases h:8589934591 < m.time<;>simp [h]
 ·simp
 ·simp
 ·by_cases h:longL m=true<;>simp [h]
def goodF (F:List UInt8 → Option (List UInt8)):Prop:=
 (∀ i,1≤i → i < 6 → (F (keyT i)).getD []=[])∧((F (keyT 0)).getD []=[] ∨ ∃ n,wholeD ((F (keyT 0)).getD [])=some n∧n < 2147483648)
theorem goodF_nil:goodF (lastD []):=⟨fun i _ _ => rfl,.inl rfl⟩
def uidG (F:List UInt8 → Option (List UInt8)) (m:MemV):Int:=
 if 2097151 < m.uid then m.uid else if (F (keyT 0)).getD []=[] then m.uid else (((wholeD ((F (keyT 0)).getD [])).getD 0:Nat):Int)
def withG (F:List UInt8 → Option (List UInt8)) (m:MemV):MemV:={ m with uid:=uidG F m }
theorem withG_nil (m:MemV):withG (lastD []) m=m:=by
 have:uidG (lastD []) m=m.uid:=by
  unfold uidG
  split
  ·rfl
  ·exact if_pos rfl
 unfold withG;rw [this]
theorem uidG_ok {F:List UInt8 → Option (List UInt8)} {m:MemV} (hF:goodF F) (h:GoodM m):0≤uidG F m∧uidG F m < 2147483648:=by
 unfold uidG;have:=h.uid
 split
 ·exact this
 ·split
  ·exact this
  ·rename_i h1 h2
   obtain ⟨n,hn,hl⟩:=hF.2.resolve_left h2;rw [hn];simp only [Option.getD_some];omega
theorem apply_headM {F:List UInt8 → Option (List UInt8)} {m:MemV} (hF:goodF F) (h:GoodM m) :
 applyD F (recsM m) (headM m)=(⟨m.path,m.target,m.kind,m.mode,uidG F m,m.gid,m.time,(m.body.length:Int),false⟩,0):=by
 obtain ⟨l0,l1,l2,l3,l4,l5⟩:=recsM_last m;obtain ⟨f,f0⟩:=hF;have hu:=h.uid;have hg:=h.gid;have ht:=h.time
 have n0:numD1 false (valueD F (recsM m) (keyT 0)) (headM m).uid=some (uidG F m):=by
  have e:(headM m).uid=if 2097151 < m.uid then 0 else m.uid:=rfl
  unfold valueD uidG;rw [l0,e]
  by_cases hc:2097151 < m.uid
  ·simp only [if_pos hc]
   unfold numD1;rw [if_neg (dec_ne _)];simp only [Bool.false_eq_true,if_false];rw [whole_dec (by omega)]
   simp only [Option.map_some]
   congr 1
   show ((m.uid.toNat:Nat):Int)=m.uid;omega
  ·simp only [if_neg hc]
   unfold numD1
   by_cases hz:(F (keyT 0)).getD []=[]
   ·rw [if_pos hz,if_pos hz]
   ·rw [if_neg hz,if_neg hz]
    obtain ⟨n,hn,_⟩:=f0.resolve_left hz;simp only [Bool.false_eq_true,if_false];rw [hn];rfl
 have n1:numD1 false (valueD F (recsM m) (keyT 1)) (headM m).gid=some m.gid:=by
  have e:(headM m).gid=if 2097151 < m.gid then 0 else m.gid:=rfl
  unfold valueD;rw [l1,e]
  by_cases hc:2097151 < m.gid
  ·simp only [if_pos hc]
   unfold numD1;rw [if_neg (dec_ne _)];simp only [Bool.false_eq_true,if_false];rw [whole_dec (by omega)]
   simp only [Option.map_some]
   congr 1
   show ((m.gid.toNat:Nat):Int)=m.gid;omega
  ·simp only [if_neg hc]
   unfold numD1;rw [if_pos (f 1 (by omega) (by omega))]
 have n2:numD1 true (valueD F (recsM m) (keyT 2)) (headM m).time=some m.time:=by
  have e:(headM m).time=if 8589934591 < m.time then 0 else m.time:=rfl
  unfold valueD;rw [l2,e]
  by_cases hc:8589934591 < m.time
  ·simp only [if_pos hc]
   unfold numD1;rw [if_neg (dec_ne _)];simp only [if_true];rw [sec_dec (by omega)]
   simp only [Option.map_some]
   congr 1
   show ((m.time.toNat:Nat):Int)=m.time;omega
  ·simp only [if_neg hc]
   unfold numD1;rw [if_pos (f 2 (by omega) (by omega))]
 have n3:numD1 false (valueD F (recsM m) (keyT 3)) (headM m).size=some (m.body.length:Int):=by
  unfold valueD;rw [l3];unfold numD1;rw [if_pos (f 3 (by omega) (by omega))]
  rfl
 have n4:textD1 (valueD F (recsM m) (keyT 4)) (headM m).name=m.path:=by
  have e:(headM m).name=if longP m then longN else m.path:=rfl
  unfold valueD;rw [l4,e]
  by_cases hc:longP m=true
  ·simp only [if_pos hc]
   unfold textD1;rw [if_neg h.pathN]
  ·simp only [if_neg hc]
   unfold textD1;rw [if_pos (f 4 (by omega) (by omega))]
 have n5:textD1 (valueD F (recsM m) (keyT 5)) (headM m).link=m.target:=by
  have e:(headM m).link=if longL m then longN else m.target:=rfl
  unfold valueD;rw [l5,e]
  by_cases hc:longL m=true
  ·simp only [if_pos hc]
   unfold textD1;rw [if_neg];intro e;rw [longL,e] at hc;simp [fitsD] at hc
  ·simp only [if_neg hc]
   unfold textD1;rw [if_pos (f 5 (by omega) (by omega))]
 unfold applyD applyV;simp only [n0,n1,n2,n3,n4,n5];rfl
theorem memOf_headM {m:MemV} (h:GoodM m) {s:RS} (hF:goodF (lastD s.glob)) (ho:s.own=recsM m) (hn:s.name=none) (hl:s.link=none) :
 memOf (headM m) s=.ok ({ withG (lastD s.glob) m with body:=[] },(m.body.length:Int)):=by
 have ha:=apply_headM hF h;have e:({ headM m with name:=s.name.getD (headM m).name,link:=s.link.getD (headM m).link }:HeadV)=headM m:=by rw [hn,hl];rfl
 have hu:=uidG_ok hF h
 have hm:metaOk m.mode (uidG (lastD s.glob) m) m.gid m.time=true:=by
  have h1:=h.mode;have h2:=h.gid;have h3:=h.time;simp only [metaOk,decide_eq_true_eq];omega
 unfold memOf;simp only [ho,e,ha]
 rw [if_neg (by simp),h.path,if_neg (by simp),hm,if_neg (by simp),if_neg (by rintro ⟨hk,hd⟩;rw [h.hard hk] at hd;exact hd rfl),if_neg (by rintro ⟨hk,hd⟩;exact hd (h.sym hk)),
  if_neg (by rintro ⟨hk,hd⟩;rw [h.file hk] at hd;exact hd rfl),if_neg (by have:=h.body;omega)]
 have ht:(if m.kind=49 then (cleanD 9 6 m.target).1 else if m.kind=50 then m.target else [])=m.target:=by
  split
  ·rename_i hk
   rw [h.hard hk]
  ·rename_i hk
   split
   ·rfl
   ·rename_i hk2
    exact (h.none (by rcases h.kind with e | e | e | e<;>simp_all)).symm
 rw [ht];rfl
theorem head_known {H:List UInt8} {h:HeadV} (hr:headR H=(h,0)):fieldB H 9=ustarB ∨ fieldB H 9=gnuB:=by
 unfold headR at hr
 split at hr
 ·cases (Prod.mk.inj hr).2
 ·split at hr
  ·cases (Prod.mk.inj hr).2
  ·split at hr
   ·cases (Prod.mk.inj hr).2
   ·rename_i _ _ h9
    by_cases h1:fieldB H 9=ustarB
    ·exact .inl h1
    ·by_cases h2:fieldB H 9=gnuB
     ·exact .inr h2
     ·exact absurd ⟨h1,h2⟩ h9
theorem head_notzero {H:List UInt8} {h:HeadV} (hr:headR H=(h,0)):zeroB H=false:=by
 cases hz:zeroB H with
 | false => rfl
 | true =>
   have hm:(117:UInt8) ∈ fieldB H 9 ∨ (117:UInt8) ∈ fieldB H 9:=by
    rcases head_known hr with e | e<;>rw [e]<;>simp [ustarB,gnuB]
   have hm:(117:UInt8) ∈ H:=List.mem_of_mem_drop (List.mem_of_mem_take (hm.elim id id));rw [zeroB,List.all_eq_true] at hz;exact absurd (hz 117 hm) (by decide)
theorem step_known {L H:List UInt8} {h:HeadV} (hL:512≤L.length) (hH:L.take 512=H) (hr:headR H=(h,0)) (s:RS):stepD L s=if isExt h.kind then extD L h s else memD L h s:=by
 unfold stepD;rw [if_neg (by omega),hH,head_notzero hr,if_neg (by simp),hr,if_neg (by simp)]
theorem take_head {H X:List UInt8} (hH:H.length=512):(H++X).take 512=H:=by rw [← hH,List.take_left'];rfl
theorem step_x {H:List UInt8} {h:HeadV} (hH:H.length=512) (hr:headR H=(h,0)) (hk:h.kind=120) {body:List UInt8} (hz:h.size=(body.length:Int)) (hb:body.length≤1048576) {rs:RecL} (hrs:recsD 5 9 body=(rs,0)) (rest:List UInt8) (s:RS) (hx:s.hasX=false) :
 stepD (H++(padB body++rest)) s=.next (512+blocksOf body.length) { s with hasX:=true,own:=rs }:=by
 rw [step_known (by rw [List.length_append];omega) (take_head hH) hr,hk,if_pos (by decide),extD,hk,if_neg (by simp [hx]),hz,if_neg (by omega),bodyN_pad H body rest hH (by omega)]
 simp only [hrs];rfl
theorem step_n {H:List UInt8} {h:HeadV} (hH:H.length=512) (hr:headR H=(h,0)) (hk:h.kind=76) {body:List UInt8} (hz:h.size=(body.length:Int)) (hb:body.length≤1048576) (rest:List UInt8) (s:RS) (hx:s.name=none) :
 stepD (H++(padB body++rest)) s=.next (512+blocksOf body.length) { s with name:=some (untilB body) }:=by
 rw [step_known (by rw [List.length_append];omega) (take_head hH) hr,hk,if_pos (by decide),extD,hk,if_neg (by simp [hx]),hz,if_neg (by omega),bodyN_pad H body rest hH (by omega)]
 rfl
theorem step_l {H:List UInt8} {h:HeadV} (hH:H.length=512) (hr:headR H=(h,0)) (hk:h.kind=75) {body:List UInt8} (hz:h.size=(body.length:Int)) (hb:body.length≤1048576) (rest:List UInt8) (s:RS) (hx:s.link=none) :
 stepD (H++(padB body++rest)) s=.next (512+blocksOf body.length) { s with link:=some (untilB body) }:=by
 rw [step_known (by rw [List.length_append];omega) (take_head hH) hr,hk,if_pos (by decide),extD,hk,if_neg (by simp [hx]),hz,if_neg (by omega),bodyN_pad H body rest hH (by omega)]
 rfl
theorem memK {k:UInt8} (h:k=48 ∨ k=49 ∨ k=50 ∨ k=53):isExt k=false∧¬ (k≠48∧k≠49∧k≠50∧k≠53):=by
 rcases h with e | e | e | e<;>rw [e]<;>exact ⟨by decide,by decide⟩
theorem step_m {H:List UInt8} {h:HeadV} (hH:H.length=512) (hr:headR H=(h,0)) (hk:h.kind=48 ∨ h.kind=49 ∨ h.kind=50 ∨ h.kind=53) {body:List UInt8} {m:MemV} {s:RS} (hm:memOf h s=.ok (m,(body.length:Int))) (hb:body.length≤1048576) (rest:List UInt8) (ho:s.out.length < 4096) :
 stepD (H++(padB body++rest)) s=.next (512+blocksOf body.length) { s with out:=s.out++[{ m with body:=body }],own:=[],name:=none,link:=none,hasX:=false }:=by
 obtain ⟨k1,k2⟩:=memK hk;rw [step_known (by rw [List.length_append];omega) (take_head hH) hr,k1,if_neg (by simp),memD,if_neg (by omega),if_neg k2,hm]
 simp only;rw [bodyN_pad H body rest hH (by omega)]
end Go.Proofs.YtnpkcneojilmkaaGreatDoor.Mem
end
section
namespace Go.Proofs.YtnpkcneojilmkaaGreatDoor.Mem
open Go.Lib Fp Hp Path Rec Attr
set_option linter.unusedVariables false
structure Bare (s:RS):Prop where
 own:s.own=[]
 name:s.name=none
 link:s.link=none
 hasX:s.hasX=false
theorem start_bare:Bare startS:=⟨rfl,rfl,rfl,rfl⟩
def moreS (s:RS) (ms:List MemV):RS:={ s with out:=s.out++ms }
theorem moreS_bare {s:RS} (h:Bare s) (ms:List MemV):Bare (moreS s ms):=⟨h.own,h.name,h.link,h.hasX⟩
theorem bare_again {s:RS} (h:Bare s) (ms:List MemV):({ s with out:=s.out++ms,own:=[],name:=none,link:=none,hasX:=false }:RS)=moreS s ms:=by
 obtain ⟨h1,h2,h3,h4⟩:=h
 cases s
 simp only at h1 h2 h3 h4;subst h1;subst h2;subst h3;subst h4;rfl
theorem withG_body (F:List UInt8 → Option (List UInt8)) (m:MemV):({ ({ withG F m with body:=[] }:MemV) with body:=m.body }:MemV)=withG F m:=rfl
theorem lines_nil {l:RecL} (hm:∀ r ∈ l,mayD r.1 r.2=true) (h:linesD l=[]):l=[]:=by
 have h1:=recs_may_back hm;rw [h] at h1;have h2:recsD 5 9 []=([],0):=rfl;rw [h2] at h1;exact (Prod.mk.inj h1).1.symm
theorem linesM_le {m:MemV} (h:GoodM m):(linesD (recsM m)).length≤1048576:=by
 have h1:=recsM_may h
 have h2:(recsM m).length≤5:=by
  have d:∀ (c:Prop) [Decidable c] (k v:List UInt8),(if c then [(k,v)] else []).length≤1:=fun c _ k v => by split<;>simp
  simp only [recsM,List.length_append];have d1:=d (longP m=true) (keyT 4) m.path;have d2:=d (longL m=true) (keyT 5) m.target;have d3:=d (2097151 < m.uid) (keyT 0) (decL m.uid.toNat);have d4:=d (2097151 < m.gid) (keyT 1) (decL m.gid.toNat);have d5:=d (8589934591 < m.time) (keyT 2) (decL m.time.toNat);omega
 have h3:=lines_le (n:=100000) fun r hr => ⟨h1 r hr,(mayD_spec (h1 r hr)).2.2.2.2⟩
 have h4:(recsM m).length * (100000+10)≤5 * (100000+10):=Nat.mul_le_mul_right _ h2;omega
theorem put_laid {m:MemV} (h:GoodM m):∃ H,putR (headM m)=some H∧H.length=512∧headR H=(headM m,0) ∧
 ((recsM m=[]∧putM m=H++padB m.body) ∨ ∃ X,putR (paxH (linesD (recsM m)).length)=some X∧X.length=512∧headR X=(paxH (linesD (recsM m)).length,0)∧putM m=X++padB (linesD (recsM m))++(H++padB m.body)):=by
 obtain ⟨H,h1,h2,h3⟩:=headM_put h;refine ⟨H,h1,h2,h3,?_⟩
 by_cases hl:linesD (recsM m)=[]
 ·refine .inl ⟨lines_nil (recsM_may h) hl,?_⟩
  rw [putM,if_pos hl,h1];rfl
 ·obtain ⟨X,x1,x2,x3⟩:=paxH_put (linesM_le h)
  refine .inr ⟨X,x1,x2,x3,?_⟩;rw [putM,if_neg hl,h1,x1];rfl
theorem read_head {m:MemV} (h:GoodM m) {H:List UInt8} (hH:H.length=512) (hr:headR H=(headM m,0)) {s:RS} (hF:goodF (lastD s.glob)) (ho:s.own=recsM m) (hn:s.name=none) (hl:s.link=none) (hs:s.out.length < 4096) (rest:List UInt8) (at_:Nat) :
 readFrom (H++(padB m.body++rest)) at_ s=readFrom rest (at_+(512+blocksOf m.body.length)) { s with out:=s.out++[withG (lastD s.glob) m],own:=[],name:=none,link:=none,hasX:=false }:=by
 rw [readFrom_next (step_m hH hr h.kind (memOf_headM h hF ho hn hl) h.body rest hs),drop_pad H m.body rest hH,withG_body]
theorem read_one {m:MemV} (h:GoodM m) {s:RS} (hs:Bare s) (hF:goodF (lastD s.glob)) (ho:s.out.length < 4096) (rest:List UInt8) (at_:Nat) :
 readFrom (putM m++rest) at_ s=readFrom rest (at_+(putM m).length) (moreS s [withG (lastD s.glob) m]):=by
 obtain ⟨H,_,h2,h3,hl⟩:=put_laid h;rcases hl with ⟨hr,e⟩ | ⟨X,_,x2,x3,e⟩
 ·have hlen:(putM m).length=512+blocksOf m.body.length:=by rw [e,List.length_append,h2,padB_length]
  rw [hlen,e,List.append_assoc,read_head h h2 h3 hF (by rw [hs.own,hr]) hs.name hs.link ho,bare_again hs]
 ·have hlen:(putM m).length=512+blocksOf (linesD (recsM m)).length+(512+blocksOf m.body.length):=by
   rw [e,List.length_append,List.length_append,List.length_append,h2,x2,padB_length,padB_length]
  rw [hlen,e,List.append_assoc,List.append_assoc,readFrom_next (step_x x2 x3 rfl rfl (linesM_le h) (recs_may_back (recsM_may h)) _ s hs.hasX),drop_pad X _ _ x2,List.append_assoc,
   read_head (s:={ s with hasX:=true,own:=recsM m }) h h2 h3 hF rfl hs.name hs.link ho,Nat.add_assoc]
  congr 1
  exact bare_again hs _
def putAllM (ms:List MemV):List UInt8:=(ms.map putM).flatten
theorem putAllM_cons (m:MemV) (ms:List MemV):putAllM (m :: ms)=putM m++putAllM ms:=by simp [putAllM]
theorem putAllM_app (a b:List MemV):putAllM (a++b)=putAllM a++putAllM b:=by simp [putAllM]
theorem archD_eq (ms:List MemV):archD ms=putAllM ms++List.replicate 1024 0:=rfl
theorem moreS_more (s:RS) (a b:List MemV):moreS (moreS s a) b=moreS s (a++b):=by simp [moreS]
theorem moreS_glob (s:RS) (a:List MemV):(moreS s a).glob=s.glob:=rfl
theorem moreS_out (s:RS) (a:List MemV):(moreS s a).out=s.out++a:=rfl
theorem read_all:∀ (ms:List MemV) {s:RS} (hs:Bare s) (hF:goodF (lastD s.glob)) (h:∀ m ∈ ms,GoodM m) (ho:s.out.length+ms.length≤4096) (rest:List UInt8) (at_:Nat),
 readFrom (putAllM ms++rest) at_ s=readFrom rest (at_+(putAllM ms).length) (moreS s (ms.map (withG (lastD s.glob))))
 | [],s,hs,hF,h,ho,rest,at_ => by simp [putAllM,moreS]
 | m :: ms,s,hs,hF,h,ho,rest,at_ => by
   have hl:s.out.length+(ms.length+1)≤4096:=ho
   rw [putAllM_cons,List.append_assoc,read_one (h m (List.mem_cons_self ..)) hs hF (by omega),
    read_all ms (moreS_bare hs _) (by rw [moreS_glob];exact hF) (fun x hx => h x (List.mem_cons_of_mem _ hx)) (by rw [moreS_out,List.length_append];simp only [List.length_cons,List.length_nil];omega),
    moreS_more,moreS_glob,List.length_append,Nat.add_assoc]
   rfl
theorem zeroB_zeros (n:Nat):zeroB (List.replicate n 0)=true:=by
 rw [zeroB,List.all_eq_true];intro x hx;rw [(List.mem_replicate.1 hx).2];rfl
theorem end_ok {s:RS} (hs:Bare s) (n:Nat) (hn:1024≤n) (at_:Nat):readFrom (List.replicate n 0) at_ s=(s.out,0,0):=by
 refine readFrom_done ?_ at_;unfold stepD
 rw [if_neg (by rw [List.length_replicate];omega),List.take_replicate,zeroB_zeros,if_pos rfl,if_neg (by rw [List.length_replicate];omega),List.drop_replicate,zeroB_zeros,if_neg (by simp),
  if_neg (by rw [hs.hasX,hs.name,hs.link];simp)]
theorem end_cut (s:RS) (n:Nat) (hn:n < 1024) (at_:Nat):readFrom (List.replicate n 0) at_ s=([],2,at_):=by
 refine readFrom_fault ?_ at_;unfold stepD
 by_cases h:n < 512
 ·rw [if_pos (by rw [List.length_replicate];exact h)]
 ·rw [if_neg (by rw [List.length_replicate];omega),List.take_replicate,zeroB_zeros,if_pos rfl,if_pos (by rw [List.length_replicate];omega)]
theorem map_withG_nil (ms:List MemV):ms.map (withG (lastD []))=ms:=by
 have:withG (lastD [])=id:=funext withG_nil;rw [this,List.map_id]
theorem read_arch {ms:List MemV} (h:∀ m ∈ ms,GoodM m) (hl:ms.length≤4096) (n:Nat):membersD (archD ms++List.replicate n 0)=(ms,0,0):=by
 rw [membersD,archD_eq,List.append_assoc,List.replicate_append_replicate,read_all ms start_bare goodF_nil h (by show 0+ms.length≤4096;omega),end_ok (moreS_bare start_bare _) _ (by omega),moreS_out]
 show ([]++ms.map (withG (lastD [])),(0:Int),0)=_;rw [map_withG_nil,List.nil_append]
end Go.Proofs.YtnpkcneojilmkaaGreatDoor.Mem
end
section
namespace Go.Proofs.YtnpkcneojilmkaaGreatDoor.Mem
open Go.Lib Fp Hp Path Rec Attr
set_option linter.unusedVariables false
theorem step_fault {l:List UInt8} {s:RS} {e:Int} (h:stepD l s=.fault e):e≠0:=by
 unfold stepD at h
 split at h
 ·cases h;omega
 split at h
 ·split at h
  ·cases h;omega
  split at h
  ·cases h;omega
  split at h
  ·cases h;omega
  ·cases h
 split at h
 ·rename_i hh
  cases h;exact hh
 split at h
 ·unfold extD at h
  split at h
  ·cases h;omega
  split at h
  ·cases h;omega
  split at h
  ·cases h;omega
  split at h
  ·cases h
  split at h
  ·cases h
  split at h
  ·rename_i hh
   cases h;exact hh
  split at h<;>cases h
 ·unfold memD at h
  split at h
  ·cases h;omega
  split at h
  ·cases h;omega
  split at h
  ·rename_i e' hm
   cases h
   unfold memOf at hm;simp only at hm
   split at hm
   ·rename_i hh;cases hm;exact hh
   split at hm
   ·rename_i hh;cases hm;exact hh
   split at hm
   ·cases hm;omega
   split at hm
   ·rename_i hh;cases hm;exact hh.2
   split at hm
   ·rename_i hh;cases hm;exact hh.2
   split at hm
   ·cases hm;omega
   split at hm
   ·cases hm;omega
   ·cases hm
  split at h
  ·cases h;omega
  ·cases h
def oddH (k:UInt8):HeadV:=⟨[111,100,100],[116,111],k,0,0,0,0,0,false⟩
theorem oddH_put {k:UInt8} (hk:k≠0):∃ H,putR (oddH k)=some H∧H.length=512∧headR H=(oddH k,0):=by
 refine putR_is (show (cutR [111,100,100]).isSome=true by rw [cutR_short (by decide)];rfl) ?_ (numsOk_iff.2 fun i h1 h2 => ?_)
 ·have:(k == 0)=false:=beq_eq_false_iff_ne.2 hk
  simp only [badH,oddH,this];rfl
 ·obtain rfl | rfl | rfl | rfl | rfl:i=1 ∨ i=2 ∨ i=3 ∨ i=4 ∨ i=5:=by omega
  ·exact putF8 (n:=0) (by omega) (by omega)
  ·exact putF8 (n:=0) (by omega) (by omega)
  ·exact putF8 (n:=0) (by omega) (by omega)
  ·exact putF12 (n:=0) (by omega) (by omega)
  ·exact putF12 (n:=0) (by omega) (by omega)
theorem applyD_nil (h:HeadV):applyD (lastD []) [] h=(h,0):=applyD_empty h fun i _ => rfl
theorem clean_z:cleanD 9 6 [122]=([122],0):=by decide
theorem until_zero {l:List UInt8} (h:textD l=true):untilB (l++[0])=l:=by
 have:=untilB_app (text_nozero h) 1;exact this
def shortH:HeadV:=⟨[115,104,111,114,116],[116,111],50,0,0,0,0,0,false⟩
theorem short_of {path link p:List UInt8} {s:RS} (hg:s.glob=[]) (hn:s.name=some path) (hl:s.link=some link) (hc:cleanD 9 6 path=(p,0)) (ht:targetD 9 6 link=0) (own:Bool) (ho:s.own=if own then [(keyT 4,[122])] else []) :
 memOf shortH s=.ok (⟨if own then [122] else p,link,50,0,0,0,0,[]⟩,(([]:List UInt8).length:Int)):=by
 have e:({ shortH with name:=s.name.getD shortH.name,link:=s.link.getD shortH.link }:HeadV)=⟨path,link,50,0,0,0,0,0,false⟩:=by rw [hn,hl];rfl
 have ha:applyD (lastD s.glob) s.own ⟨path,link,50,0,0,0,0,0,false⟩=(⟨if own then [122] else path,link,50,0,0,0,0,0,false⟩,0):=by
  rw [hg,ho]
  cases own with
  | false => exact applyD_nil _
  | true => rfl
 have hc':cleanD 9 6 (if own then [122] else path)=(if own then [122] else p,0):=by
  cases own with
  | false => exact hc
  | true => exact clean_z
 unfold memOf;simp only [e,ha,hc',ht];rfl
theorem long_is {k:UInt8} (hk:k≠0) {l:List UInt8} (hl:l.length≤1000):∃ H,putR ⟨[64],[],k,0,0,0,0,((l.length+1:Nat):Int),false⟩=some H∧H.length=512∧headR H=(⟨[64],[],k,0,0,0,0,((l.length+1:Nat):Int),false⟩,0):=
 ext_put [64] (by decide) (by decide) k hk (l.length+1) (by omega)
theorem shortH_put:∃ H,putR shortH=some H∧H.length=512∧headR H=(shortH,0):=by
 refine putR_is (by rw [cutR_short (by decide)];rfl) (by decide) (numsOk_iff.2 fun i h1 h2 => ?_)
 obtain rfl | rfl | rfl | rfl | rfl:i=1 ∨ i=2 ∨ i=3 ∨ i=4 ∨ i=5:=by omega
 ·exact putF8 (n:=0) (by omega) (by omega)
 ·exact putF8 (n:=0) (by omega) (by omega)
 ·exact putF8 (n:=0) (by omega) (by omega)
 ·exact putF12 (n:=0) (by omega) (by omega)
 ·exact putF12 (n:=0) (by omega) (by omega)
theorem read_long {path link p:List UInt8} (hc:cleanD 9 6 path=(p,0)) (hpl:path.length≤400) (ht:targetD 9 6 link=0) {m:MemV} (hm:GoodM m) (own:Bool)
 {HL HK HX HS:List UInt8} (l2:HL.length=512) (l3:headR HL=(⟨[64],[],76,0,0,0,0,((path.length+1:Nat):Int),false⟩,0))
 (k2:HK.length=512) (k3:headR HK=(⟨[64],[],75,0,0,0,0,((link.length+1:Nat):Int),false⟩,0))
 (x2:HX.length=512) (x3:headR HX=(⟨[64],[],120,0,0,0,0,((lineD (keyT 4) [122]).length:Int),false⟩,0))
 (s2:HS.length=512) (s3:headR HS=(shortH,0)) :
 membersD (HL++(padB (path++[0])++(HK++(padB (link++[0])++((if own then HX++padB (lineD (keyT 4) [122]) else [])++(HS++archD [m]))))))=([⟨if own then [122] else p,link,50,0,0,0,0,[]⟩,m],0,0):=by
 have hpt:textD path=true:=((clean_ok 9 6 (by omega) (by omega) path p).1 hc).1
 obtain ⟨hlt,_,hll⟩:=target_facts ht;have hmay:mayD (keyT 4) [122]=true:=may_key 4 (by omega) (ascii_text _ (by decide)) (by decide)
 have hrs:recsD 5 9 (lineD (keyT 4) [122])=([(keyT 4,[122])],0):=by
  have:=recs_may_back (l:=[(keyT 4,[122])]) fun r hr => by rw [List.mem_singleton.1 hr];exact hmay
  rwa [show linesD [(keyT 4,[122])]=lineD (keyT 4) [122] by simp [linesD]] at this
 have hlen:(lineD (keyT 4) [122]).length≤1048576:=by
  obtain ⟨d,_,_,_,_,hd7,_,e⟩:=line_parts hmay;have:(keyT 4).length=4:=rfl;have:([122]:List UInt8).length=1:=rfl;omega
 have z1:((path.length+1:Nat):Int)=((path++[0]).length:Int):=by simp
 have z2:((link.length+1:Nat):Int)=((link++[0]).length:Int):=by simp
 have hend:∀ (s:RS) (at_:Nat) (x:MemV),s.out=[x] → s.glob=[] → s.own=[] → s.name=none → s.link=none → s.hasX=false → readFrom (archD [m]) at_ s=([x,m],0,0):=fun s at_ x ho hg h1 h2 h3 h4 => by
  have hs:Bare s:=⟨h1,h2,h3,h4⟩;have e:archD [m]=putAllM [m]++List.replicate 1024 0:=rfl;rw [e,read_all [m] hs (by rw [hg];exact goodF_nil) (fun x hx => by rw [List.mem_singleton.1 hx];exact hm) (by rw [ho];simp),hg,map_withG_nil,end_ok (moreS_bare hs _) _ (Nat.le_refl _),moreS_out,ho]
  rfl
 have hS:∀ (s:RS) (at_:Nat),s.out=[] → s.glob=[] → s.name=some path → s.link=some link → (s.own=if own then [(keyT 4,[122])] else []) → readFrom (HS++archD [m]) at_ s=([⟨if own then [122] else p,link,50,0,0,0,0,[]⟩,m],0,0):=fun s at_ ho hg hn hl hw => by
  have hX:HS++archD [m]=HS++(padB []++archD [m]):=rfl;rw [hX,readFrom_next (step_m s2 s3 (.inr (.inr (.inl rfl))) (short_of hg hn hl hc ht own hw) (by simp) _ (by rw [ho];simp)),drop_pad HS [] _ s2]
  apply hend
  ·rw [ho];rfl
  ·exact hg
  ·rfl
  ·rfl
  ·rfl
  ·rfl
 rw [membersD,readFrom_next (step_n l2 l3 rfl z1 (by simp;omega) _ startS rfl),drop_pad HL _ _ l2,until_zero hpt,
  readFrom_next (step_l k2 k3 rfl z2 (by simp;omega) _ _ rfl),drop_pad HK _ _ k2,until_zero hlt]
 cases own with
 | false =>
   exact hS _ _ rfl rfl rfl rfl rfl
 | true =>
   simp only [if_true] at hS ⊢;rw [List.append_assoc,readFrom_next (step_x x2 x3 rfl rfl hlen hrs _ _ rfl),drop_pad HX _ _ x2];exact hS _ _ rfl rfl rfl rfl rfl
end Go.Proofs.YtnpkcneojilmkaaGreatDoor.Mem
end
section
namespace Go.Proofs.YtnpkcneojilmkaaGreatDoor.Mem
open Go.Lib Fp Hp Path Rec Attr
set_option linter.unusedVariables false
theorem recStep_len {R T:Int} {l k v:List UInt8} {m:Nat} (h:recStep R T l=.ok (k,v,m)):k.length+v.length≤l.length:=by
 unfold recStep at h
 split at h
 ·cases h
 ·split at h
  ·cases h
  ·dsimp only at h
   split at h
   ·cases h
   ·split at h
    ·cases h
    ·cases h
     simp only [List.length_take,List.length_drop];omega
theorem recsGo_len (R T:Int) (L:Nat):∀ (n:Nat) (l:List UInt8) (acc:RecL),l.length≤L → (∀ r ∈ acc,r.1.length+r.2.length≤L) → acc.length+l.length≤L → (∀ r ∈ (recsGo R T n l acc).1,r.1.length+r.2.length≤L)∧(recsGo R T n l acc).1.length≤L:=by
 intro n
 induction n with
 | zero => intro l acc h1 h2 h3;exact ⟨h2,by simp only [recsGo];omega⟩
 | succ n ih =>
   intro l acc h1 h2 h3;rw [recsGo]
   by_cases hl:l=[]
   ·rw [if_pos hl];exact ⟨h2,by simp only;omega⟩
   ·rw [if_neg hl]
    cases hs:recStep R T l with
    | error e => exact ⟨fun r hr => by simp at hr,by simp⟩
    | ok x =>
      obtain ⟨k,v,m⟩:=x;have hp:=recStep_pos hs;have hq:=recStep_len hs;refine ih _ _ (by rw [List.length_drop];omega) (fun r hr => ?_) (by rw [List.length_drop,List.length_append,List.length_singleton];omega)
      rcases List.mem_append.1 hr with hr | hr
      ·exact h2 r hr
      ·rw [List.mem_singleton] at hr
       subst hr;show k.length+v.length≤L;omega
theorem recsD_len (R T:Int) (l:List UInt8):(∀ r ∈ (recsD R T l).1,r.1.length+r.2.length≤l.length)∧(recsD R T l).1.length≤l.length:=
 recsGo_len R T l.length l.length l [] (Nat.le_refl _) (fun r hr => by simp at hr) (by simp)
theorem untilB_len (l:List UInt8):(untilB l).length≤l.length:=(List.takeWhile_sublist _).length_le
theorem valB_ge (bs:List UInt8) (i:Nat):0≤valB bs i:=by
 unfold valB
 cases h:parseF (fieldB bs i) with
 | none => exact Int.le_refl _
 | some r => exact (parseF_bd h).1
theorem fieldB_le (bs:List UInt8) (i:Nat):(fieldB bs i).length≤wideF i:=by
 unfold fieldB;rw [List.length_take];omega
theorem headR_bd (bs:List UInt8):0≤(headR bs).1.size∧(headR bs).1.name.length≤1000∧(headR bs).1.link.length≤1000:=by
 unfold headR
 split
 ·exact ⟨by decide,by decide,by decide⟩
 ·split
  ·exact ⟨by decide,by decide,by decide⟩
  ·split
   ·exact ⟨by decide,by decide,by decide⟩
   ·split
    ·refine ⟨valB_ge bs 4,?_,?_⟩
     ·show (nameF _ _ _).length≤1000
      have h1:=untilB_len (fieldB bs 10);have h2:=untilB_len (fieldB bs 0);have h3:=fieldB_le bs 10;have h4:=fieldB_le bs 0;have h5:wideF 10≤400:=by decide
      have h6:wideF 0≤400:=by decide
      unfold nameF
      split
      ·omega
      ·simp only [List.length_append,List.length_cons];omega
     ·show (untilB _).length≤1000
      have h1:=untilB_len (fieldB bs 8);have h3:=fieldB_le bs 8;have h5:wideF 8≤400:=by decide
      omega
    ·exact ⟨by decide,by decide,by decide⟩
theorem applyV_bd {V:Nat → List UInt8} {h:HeadV} (L:Nat) (hV:∀ i,i < 6 → (V i).length≤L) (h0:0≤h.size) (h1:h.name.length≤L) (h2:h.link.length≤L):0≤(applyV V h).1.size∧(applyV V h).1.name.length≤L∧(applyV V h).1.link.length≤L:=by
 unfold applyV
 split
 ·rename_i u g t s e0 e1 e2 e3
  refine ⟨?_,?_,?_⟩
  ·show 0≤s
   unfold numD1 at e3
   split at e3
   ·cases e3;exact h0
   ·simp only [Bool.false_eq_true,if_false] at e3
    cases hw:wholeD (V 3) with
    | none => rw [hw] at e3;cases e3
    | some n => rw [hw] at e3;cases e3;exact Int.natCast_nonneg n
  ·show (textD1 (V 4) h.name).length≤L
   unfold textD1
   split
   ·exact h1
   ·exact hV 4 (by omega)
  ·show (textD1 (V 5) h.link).length≤L
   unfold textD1
   split
   ·exact h2
   ·exact hV 5 (by omega)
 ·exact ⟨by decide,Nat.zero_le _,Nat.zero_le _⟩
theorem glob_len {gs own:RecL} {L:Nat} (h1:∀ r ∈ gs,r.2.length≤L) (h2:∀ r ∈ own,r.2.length≤L) (k:List UInt8):(valueD (lastD gs) own k).length≤L:=by
 unfold valueD
 cases h:lastD own k with
 | some v =>
   obtain ⟨r,hr,_,rfl⟩:=lastD_mem h;exact h2 r hr
 | none =>
   cases h':lastD gs k with
   | some v =>
     obtain ⟨r,hr,_,rfl⟩:=lastD_mem h'
     simpa [h'] using h1 r hr
   | none => simp
theorem lastD_more (gs rs:RecL):moreF (lastD gs) rs=lastD (gs++rs):=by rw [← moreF_none,moreF_more,moreF_none]
theorem zeroB_get {l:List UInt8}:zeroB l=true ↔ ∀ x,x < l.length → l.getD x 0=0:=by
 unfold zeroB;rw [List.all_eq_true];constructor
 ·intro h x hx
  rw [List.getD,List.getElem?_eq_getElem hx]
  simpa using h _ (List.getElem_mem hx)
 ·intro h x hx
  obtain ⟨i,hi,rfl⟩:=List.getElem_of_mem hx;have:=h i hi;rw [List.getD,List.getElem?_eq_getElem hi] at this
  simpa using this
theorem plain_zeroB {l:List UInt8} (hl:l.length=512):(((plainTo l 512:Nat):Int) == 0)=zeroB l:=by
 rw [Bool.eq_iff_iff,zeroB_get,hl];rw [← plainTo_zero];simp
def noM:MemV:=⟨[],[],0,0,0,0,0,[]⟩
def goalD (kind:UInt8) (link:List UInt8):List UInt8 × Int:=if kind=49 then cleanD 9 6 link else if kind=50 then (link,targetD 9 6 link) else ([],0)
def sizeD (kind:UInt8) (n:Int):Int:=if kind≠48∧n≠0 then 4 else if 1048576 < n then 10 else 0
def fromD (h:HeadV):MemV × Int:=
 if (cleanD 9 6 h.name).2≠0 then (noM,(cleanD 9 6 h.name).2)
 else if metaOk h.mode h.uid h.gid h.time=false then (noM,4)
 else if (goalD h.kind h.link).2≠0 then (noM,(goalD h.kind h.link).2)
 else if sizeD h.kind h.size≠0 then (noM,sizeD h.kind h.size)
 else (⟨(cleanD 9 6 h.name).1,(goalD h.kind h.link).1,h.kind,h.mode,h.uid,h.gid,h.time,[]⟩,0)
def renD (h:HeadV) (s:RS):HeadV:={ h with name:=s.name.getD h.name,link:=s.link.getD h.link }
theorem memOf_is (h:HeadV) (s:RS):memOf h s =
 if (applyD (lastD s.glob) s.own (renD h s)).2≠0 then .error (applyD (lastD s.glob) s.own (renD h s)).2
 else if (fromD (applyD (lastD s.glob) s.own (renD h s)).1).2≠0 then .error (fromD (applyD (lastD s.glob) s.own (renD h s)).1).2
 else .ok ((fromD (applyD (lastD s.glob) s.own (renD h s)).1).1,(applyD (lastD s.glob) s.own (renD h s)).1.size):=by
 unfold memOf renD
 dsimp only
 generalize applyD (lastD s.glob) s.own _=a
 by_cases h1:a.2≠0
 ·rw [if_pos h1,if_pos h1]
 ·rw [if_neg h1,if_neg h1]
  unfold fromD
  by_cases h2:(cleanD 9 6 a.1.name).2≠0
  ·simp only [if_pos h2]
  ·simp only [if_neg h2]
   by_cases h3:metaOk a.1.mode a.1.uid a.1.gid a.1.time=false
   ·simp only [if_pos h3];rfl
   ·simp only [if_neg h3]
    unfold goalD sizeD
    by_cases k1:a.1.kind=49
    ·have k2:¬ a.1.kind=50:=by rw [k1];decide
     have k3:a.1.kind≠48:=by rw [k1];decide
     by_cases h4:(cleanD 9 6 a.1.link).2=0
     ·by_cases h5:a.1.size=0
      ·simp [k1,h4,h5]
      ·simp [k1,h4,h5]
     ·simp [k1,h4]
    ·by_cases k2:a.1.kind=50
     ·by_cases h4:targetD 9 6 a.1.link=0
      ·by_cases h5:a.1.size=0
       ·simp [k2,h4,h5]
       ·simp [k2,h4,h5]
      ·simp [k2,h4]
     ·by_cases k3:a.1.kind=48
      ·by_cases h6:1048576 < a.1.size
       ·simp [k3,h6]
       ·simp [k3,h6]
      ·by_cases h5:a.1.size=0
       ·simp [k1,k2,k3,h5]
       ·simp [k1,k2,k3,h5]
def knownD (k:UInt8):Bool:=k == 48 || k == 49 || k == 50 || k == 53
def headOfM (m:MemV):HeadV:=⟨m.path,m.target,m.kind,m.mode,m.uid,m.gid,m.time,(m.body.length:Int),false⟩
theorem goodD_is (m:MemV):goodD m=(knownD m.kind && decide ((fromD (headOfM m)).2=0) && decide ((fromD (headOfM m)).1.path=m.path) && decide ((fromD (headOfM m)).1.target=m.target)):=by
 rw [Bool.eq_iff_iff];unfold goodD knownD fromD headOfM cleanOk goalD sizeD;simp only [Bool.and_eq_true,Bool.or_eq_true,decide_eq_true_eq,beq_iff_eq];obtain ⟨⟨cp,ce⟩,hc⟩:∃ x,cleanD 9 6 m.path=x:=⟨_,rfl⟩;obtain ⟨⟨dp,de⟩,hd⟩:∃ x,cleanD 9 6 m.target=x:=⟨_,rfl⟩;rw [hc,hd];have hb:((m.body.length:Int)=0) ↔ m.body=[]:=by rw [← List.length_eq_zero_iff];omega
 have hb2:(1048576 < (m.body.length:Int)) ↔ 1048576 < m.body.length:=by omega
 have hb3:m.body=[] → ¬ 1048576 < m.body.length:=fun h => by rw [h];simp
 simp only [Prod.mk.injEq,ne_eq,hb,hb2]
 by_cases h1:ce=0
 ·by_cases h2:metaOk m.mode m.uid m.gid m.time=false
  ·simp [h1,h2,noM]
  ·have h2':metaOk m.mode m.uid m.gid m.time=true:=by simpa using h2
   by_cases k0:m.kind=48
   ·by_cases h6:1048576 < m.body.length
    ·simp [h1,h2',k0,h6]
     intro _ _;omega
    ·have h7:m.body.length≤1048576:=by omega
     simp [h1,h2',k0,h6,h7,@eq_comm _ [] m.target]
   ·by_cases k1:m.kind=49
    ·by_cases h4:de=0
     ·by_cases h5:m.body=[]
      ·simp [h1,h2',k1,h4,h5]
      ·simp [h1,h2',k1,h4,h5]
     ·simp [h1,h2',k1,h4]
    ·by_cases k2:m.kind=50
     ·by_cases h4:targetD 9 6 m.target=0
      ·by_cases h5:m.body=[]
       ·simp [h1,h2',k2,h4,h5]
       ·simp [h1,h2',k2,h4,h5]
      ·simp [h1,h2',k2,h4]
     ·by_cases k3:m.kind=53
      ·by_cases h5:m.body=[]
       ·simp [h1,h2',k3,h5,@eq_comm _ [] m.target]
       ·simp [h1,h2',k3,h5]
      ·simp [k0,k1,k2,k3]
 ·simp [h1]
end Go.Proofs.YtnpkcneojilmkaaGreatDoor.Mem
end
section
namespace Go.Proofs.YtnpkcneojilmkaaGreatDoor.Mem
open Go.ChangeShapes Go.WideShapes Go.ChangeAt Go.RowKit Hp Head Path Rec Attr Go.Lib
set_option linter.unusedVariables false
theorem target_le {m:MemV} (h:GoodM m):m.target.length≤200:=by
 rcases h.kind with k | k | k | k
 ·rw [h.none (.inl k)];simp
 ·exact ((clean_ok 9 6 (by decide) (by decide) _ _).1 (h.hard k)).2.2.2.2.2
 ·have:=h.sym k
  unfold targetD at this
  split at this
  ·cases this
  ·split at this
   ·cases this
   ·omega
 ·rw [h.none (.inr k)];simp
theorem wf_i64 {n:Int} (h0:0≤n) (h1:n≤9223372036854775807):(Lit.int .i64 n).wf=true:=by
 have e1:IntKind.i64.min = -9223372036854775808:=rfl;have e2:IntKind.i64.max=9223372036854775807:=rfl;simp only [Lit.wf,Bool.and_eq_true,decide_eq_true_eq];omega
theorem headM_wf {m:MemV} (h:GoodM m):∀ i,(Lit.int .i64 (numH (headM m) i)).wf=true:=by
 have h1:=h.mode;have h2:=h.uid;have h3:=h.gid;have h4:=h.time;have h5:=h.body;intro i;unfold numH headM
 split
 ·exact wf_i64 (n:=m.mode) h1.1 (by omega)
 ·simp only;split<;>exact wf_i64 (by omega) (by omega)
 ·simp only;split<;>exact wf_i64 (by omega) (by omega)
 ·exact wf_i64 (n:=(m.body.length:Int)) (by omega) (by omega)
 ·simp only;split<;>exact wf_i64 (by omega) (by omega)
 ·exact wf_i64 (by omega) (by omega)
theorem headM_tx {m:MemV} (h:GoodM m):(headM m).name.length≤140737488351232∧(headM m).link.length≤140737488351232:=by
 have h1:=h.pathL;have h2:=target_le h;unfold headM;constructor
 ·simp only;split
  ·decide
  ·omega
 ·simp only;split
  ·decide
  ·omega
theorem paxH_wf {n:Nat} (h:n≤1048576):∀ i,(Lit.int .i64 (numH (paxH n) i)).wf=true:=by
 intro i;unfold numH paxH
 split
 ·exact wf_i64 (n:=0) (by omega) (by omega)
 ·exact wf_i64 (n:=0) (by omega) (by omega)
 ·exact wf_i64 (n:=0) (by omega) (by omega)
 ·exact wf_i64 (n:=(n:Int)) (by omega) (by omega)
 ·exact wf_i64 (n:=0) (by omega) (by omega)
 ·exact wf_i64 (by omega) (by omega)
end Go.Proofs.YtnpkcneojilmkaaGreatDoor.Mem
end
section
namespace Go.Proofs.YtnpkcneojilmkaaGreatDoor.Rec
open Go.ChangeShapes Go.WideShapes Go.ChangeAt Go.RowKit Go.Shelf Base Byt Txt Path Go.Lib
set_option linter.unusedVariables false
set_option maxRecDepth 100000
def Need (w : World) : Prop := Path.Tabs w ∧ (∃ tp p, w.var? Tryz.prog "strconv.ErrSyntax" = some #[.iface tp p]) ∧ Lib.TabIs Tryz.prog w "internal/strconv.uint64pow10" .u64 Lib.pow10Tab
theorem var_below {P:Program} {n:String} {w w':World} {cs:Array Value} (h:w.var? P n=some cs) (hb:Below w.heap.size w w'):w'.var? P n=some cs:=by
 unfold World.var? at h ⊢
 cases hg:P.globalNamed n with
 | none => simp [hg] at h
 | some g =>
   simp only [hg,Option.bind_some] at h ⊢
   have hlt:g < w.heap.size:=by
    rcases Nat.lt_or_ge g w.heap.size with h' | h'
    ·exact h'
    ·simp [Array.getElem?_eq_none h'] at h
   rw [hb.block g hlt];exact h
theorem Need.below {w w':World} (h:Need w) (hb:Below w.heap.size w w'):Need w':=
 ⟨h.1.below hb,by obtain ⟨tp,p,hv⟩:=h.2.1;exact ⟨tp,p,var_below hv hb⟩,var_below h.2.2 hb⟩
theorem row_below {w w':World} {B:Nat} {e:TypeId} {k:Nat} {v:Value} {n:Nat} {xs:List Value} (h:w.ownsRow B e k v n xs) (hb:Below w.heap.size w w'):w'.ownsRow B e k v n xs:=by
 refine ⟨h.1,?_⟩;rcases h.2 with h2 | ⟨g,cap,cur,rfl,h3,h4,h5⟩
 ·exact .inl h2
 ·exact .inr ⟨g,cap,cur,rfl,h3,by rw [hb.block g (Array.getElem?_eq_some_iff.1 h4).1];exact h4,h5⟩
theorem Need.tabs {w:World} (h:Need w):Path.Tabs w:=h.1
end Go.Proofs.YtnpkcneojilmkaaGreatDoor.Rec
end
section
namespace Go.Proofs.YtnpkcneojilmkaaGreatDoor.Rec
open Go.ChangeShapes Go.WideShapes Go.ChangeAt Go.RowKit Go.Shelf Base Byt Txt Path Num Go.Lib
set_option linter.unusedVariables false
set_option maxRecDepth 100000
theorem puint_any (l:List UInt8) (w:World) (h1:1≤l.length) (h2:l.length≤7) (hN:Need w) :
 Calls Tryz.prog 155 #[.string (str l),.int .i64 10,.int .i64 64] w fun e w' =>
  ∃ (u:Nat) (x:Value),e=.returned (.tuple #[.int .u64 (u:Int),x])∧Below w.heap.size w w' ∧
    ((l.all isDig=true∧u=valL l∧x=.nilIface) ∨ (l.all isDig=false∧u=0 ∧ ∃ t y,x=.iface t y)):=by
 have hp:=parse_few l h1 (by omega)
 have hs:(str l).size=l.length:=str_size l
 cases hd:l.all isDig with
 | true =>
   rw [hd,if_pos rfl] at hp;refine (Any.strconv_ParseUint_10_at64_ok Tryz.laysPu (str l) (by omega) (valL l) (by rw [str_data];exact hp) w).mono ?_
   rintro e w' ⟨rfl,hw⟩;refine ⟨valL l,.nilIface,rfl,?_,.inl ⟨rfl,rfl,rfl⟩⟩;rcases hw with rfl | rfl
   ·exact Below.refl _ _
   ·exact str_below w _ _
 | false =>
   rw [hd,if_neg (by simp)] at hp
   obtain ⟨tp,p,hv⟩:=hN.2.1;refine (Any.strconv_ParseUint_10_at64_syntax_var Tryz.laysPu (str l) (by omega) (by rw [str_data];exact hp) tp p w hv).mono ?_
   rintro e w' ⟨N,rfl,_,_,hb⟩;exact ⟨0,_,rfl,hb,.inr ⟨rfl,rfl,_,_,rfl⟩⟩
theorem recNum_any (p:Option Addr) (n c:Nat) (bs:List UInt8) (w:World) (hn:bs.length=n) (hm:n≤1000000000000) (h:BAt w p n bs) (hN:Need w) :
 Calls Tryz.prog 140 #[.slice p n c] w fun e w' => e=.returned (wholeV (numD bs))∧Below w.heap.size w w':=by
 have mixed:Tryz.prog.follows .mixedOrders=true:=by kernel_rfl
 by_cases hr:1≤n∧n≤7
 ·have hi:inB (n:Int) 1 7=true:=inB_true (by omega) (by omega)
  obtain ⟨b,o,rfl,hc⟩:=h (by omega)
  have hc0:=hc 0 (by omega)
  rw [Nat.add_zero] at hc0;obtain ⟨C,hC⟩:∃ C:Nat,(bs.getD 0 0).toNat=C:=⟨_,rfl⟩;rw [hC] at hc0;have hnz:(0:Int) < (n:Int):=by omega
  by_cases h48:bs.getD 0 0=48
  ·have e:numD bs=none:=by unfold numD;rw [if_pos (.inr (.inr h48))]
   rw [e];have hb:((C:Int) == 48)=true:=by rw [← hC,h48];rfl
   clear h hN hc h48 hC e hn
   go_enter Tryz.func140,Tryz.ntmps140
   go_wp2_with (go_at_call 98;refine (in_any _ _ _ _).mono ?_;rw [hi];rintro e w2 ⟨rfl,rfl⟩)
   go_ret2
   exact ⟨rfl,Below.refl _ _⟩
  ·have hb:((C:Int) == 48)=false:=by
    rw [beq_eq_false_iff_ne];intro e;refine h48 (UInt8.toNat_inj.1 ?_);rw [hC];show C=48;omega
   have HP:=Lib.hid (puint_any bs w (by omega) (by omega) hN)
   have cs:=conv_at h hn 24 5 9 Tryz.underlying24 Tryz.underlying5 Tryz.underlying9 c
   have HND:Hid (numD bs=if bs.all isDig then some (valL bs) else none):=Lib.hid (by
    unfold numD
    rw [if_neg (by
     rintro (e | e | e)
     ·omega
     ·omega
     ·exact h48 e)])
   have HVL:Hid (bs.all isDig=true → valL bs < 10000000):=Lib.hid (fun hd => by
    have h3:=valL_lt bs (List.all_eq_true.1 hd);have h5:10 ^ bs.length≤10 ^ 7:=Nat.pow_le_pow_right (by omega) (by omega)
    have h6:(10:Nat) ^ 7=10000000:=by decide
    omega)
   clear h hN hc h48 hC hn
   go_enter Tryz.func140,Tryz.ntmps140
   go_wp2_with (go_at_call 98;refine (in_any _ _ _ _).mono ?_;rw [hi];rintro e w2 ⟨rfl,rfl⟩)
   rw [show (⟨bs.toArray⟩:ByteArray)=str bs from rfl]
   go_at_call 155
   refine HP.out.mono ?_
   rintro e w1 ⟨u,x,rfl,hb1,(⟨hd,rfl,rfl⟩ | ⟨hd,rfl,t,y,rfl⟩)⟩
   ·have hu:=HVL.out hd
    have HE:Hid (numD bs=some (valL bs)):=Lib.hid (by rw [HND.out,hd];rfl)
    obtain ⟨u,hu2⟩:∃ u,valL bs=u:=⟨_,rfl⟩;rw [hu2] at hu HE ⊢;have q1:IntKind.i64.wrap (u:Int)=(u:Int):=by rw [IntKind.wrap_i64];omega
    have HB:=Lib.hid hb1;clear hb1 hd hu2 cs HVL
    go_wp2_with fail
    go_quiet (fail)
    have HBD:=Lib.hid (below_drewN HB.out nq)
    go_wp2
    go_ret2
    rw [HE.out];exact ⟨rfl,HBD.out⟩
   ·have HE:Hid (numD bs=none):=Lib.hid (by rw [HND.out,hd];rfl)
    have HB:=Lib.hid hb1;clear hb1 hd cs HVL
    go_wp2_with fail
    go_quiet (fail)
    have HBD:=Lib.hid (below_drewN HB.out nq)
    go_wp2
    go_ret2
    rw [HE.out];exact ⟨rfl,HBD.out⟩
 ·have hi:inB (n:Int) 1 7=false:=inB_false (by omega)
  have e:numD bs=none:=by unfold numD;rw [if_pos (by omega)]
  rw [e];clear h hN e hn hr
  go_enter Tryz.func140,Tryz.ntmps140
  go_wp2_with (go_at_call 98;refine (in_any _ _ _ _).mono ?_;rw [hi];rintro e w2 ⟨rfl,rfl⟩)
  go_ret2
  exact ⟨rfl,Below.refl _ _⟩
end Go.Proofs.YtnpkcneojilmkaaGreatDoor.Rec
end
section
namespace Go.Proofs.YtnpkcneojilmkaaGreatDoor.Rec
open Go.ChangeShapes Go.WideShapes Go.ChangeAt Go.RowKit Go.Shelf Base Byt Txt Path Num Go.Lib
set_option linter.unusedVariables false
set_option maxRecDepth 100000
theorem mark_cell (w:World) (t:TypeId) (x:Int):(w.alloc (.cells #[.int .u8 x] t (1,2))).cell? ⟨w.heap.size,0,none⟩=some (.int .u8 x):=by
 rw [World.cell?_alloc_mark];rfl
theorem bcutI_any (b o n c b2:Nat) (bs:List UInt8) (w:World) (hn:bs.length=n) (hc:n≤c) (hm:n≤1000000000000) (h:BAt w (some ⟨b,o,none⟩) n bs) (h2:w.cell? ⟨b2,0,none⟩=some (.int .u8 32)) :
 Calls Tryz.prog 80 #[.slice (some ⟨b,o,none⟩) n c,.slice (some ⟨b2,0,none⟩) 1 1] w fun e w' => e=.returned (Lib.cutV (some ⟨b,o,none⟩) n c 1 (Lib.indexByte bs 32)) ∧ ∃ q,w'=w.drewN q:=by
 have hnb:bytesOf (nums bs)=bs:=bytesOf_nums bs
 have hidx:=Any.bytes_Index_one Tryz.laysCut.index b o n c b2 0 1 (nums bs) 32 w (by rw [nums_length,hn]) (fun i hi => by
  obtain ⟨b',o',he,hcell⟩:=h (by omega)
  cases he
  rw [hcell i hi]
  simp [nums,List.getD,List.getElem?_eq_getElem (show i < bs.length by omega)]) h2
 rw [hnb,show (32:Int).toNat.toUInt8=32 from rfl] at hidx
 have hroom:0≤Lib.indexByte bs 32 → Lib.indexByte bs 32+(1:Nat)≤n:=fun h0 => by
  obtain ⟨k,hk⟩:∃ k:Nat,Lib.indexByte bs 32=k:=⟨(Lib.indexByte bs 32).toNat,by omega⟩
  have:=(Lib.indexByte_some hk).1;have hlt:=(List.getElem?_eq_some_iff.1 this).1;omega
 exact Any.bytes_Cut_of Tryz.laysCut (some ⟨b,o,none⟩) (some ⟨b2,0,none⟩) n c 1 1 (Lib.indexByte bs 32) w hc (Lib.indexByte_ge _ _) hroom (by omega) (hidx.mono fun e w' he => ⟨he.1,0,he.2⟩)
theorem bcut_no (b o n c b2:Nat) (bs:List UInt8) (w:World) (hn:bs.length=n) (hc:n≤c) (hm:n≤1000000000000) (h:BAt w (some ⟨b,o,none⟩) n bs) (h2:w.cell? ⟨b2,0,none⟩=some (.int .u8 32)) (hi:Lib.indexByte bs 32 < 0) :
 Calls Tryz.prog 80 #[.slice (some ⟨b,o,none⟩) n c,.slice (some ⟨b2,0,none⟩) 1 1] w fun e w' => e=.returned (.tuple #[.slice (some ⟨b,o,none⟩) n c,.slice none 0 0,.bool false]) ∧ ∃ q,w'=w.drewN q:=by
 have:=bcutI_any b o n c b2 bs w hn hc hm h h2;unfold Lib.cutV at this
 rwa [if_neg (by omega)] at this
theorem bcut_at (b o n c b2 i r:Nat) (bs:List UInt8) (w:World) (hn:bs.length=n) (hc:n≤c) (hm:n≤1000000000000) (h:BAt w (some ⟨b,o,none⟩) n bs) (h2:w.cell? ⟨b2,0,none⟩=some (.int .u8 32)) (hi:Lib.indexByte bs 32=(i:Int)) (hr:n=i+1+r) :
 Calls Tryz.prog 80 #[.slice (some ⟨b,o,none⟩) n c,.slice (some ⟨b2,0,none⟩) 1 1] w fun e w' => ∃ q2 c2,e=.returned (.tuple #[.slice (some ⟨b,o,none⟩) i c,.slice q2 r c2,.bool true])∧r≤c2∧BAt w' q2 r (bs.drop (i+1)) ∧ ∃ q,w'=w.drewN q:=by
 refine (bcutI_any b o n c b2 bs w hn hc hm h h2).mono ?_
 rintro e w' ⟨rfl,q,rfl⟩;unfold Lib.cutV;rw [if_pos (by omega),hi,Int.toNat_natCast]
 have hd:=h.drop (k:=i+1) (c:=c) (by omega) hc hn
 rw [show n - (i+1)=r by omega] at hd
 refine ⟨_,c - (i+1),?_,by omega,hd.below (below_drewN (Below.refl _ _) q),q,rfl⟩
 unfold Lib.fromV;rw [show n - (i+1)=r by omega]
def cutAns (r:Option (List UInt8 × Nat)):Value:=match r with
 | some (t,m) => .tuple #[.string (str t),.int .i64 (m:Int),.bool true]
 | none => .tuple #[.string ⟨#[]⟩,.int .i64 0,.bool false]
set_option maxHeartbeats 1000000 in
theorem recCut_any (b o n c:Nat) (bs:List UInt8) (w:World) (hn:bs.length=n) (hc:n≤c) (hm:n≤1000000000000) (h:BAt w (some ⟨b,o,none⟩) n bs) (hN:Need w) :
 Calls Tryz.prog 107 #[.slice (some ⟨b,o,none⟩) n c] w fun e w' => e=.returned (cutAns (cutD bs))∧Below w.heap.size w w':=by
 have C5:=Lib.run_convert_bytes_const (P:=Tryz.prog) w 24 5 #[.int .u8 32] 1 1 Tryz.underlying24 Tryz.underlying5;obtain ⟨wm,hwm⟩:∃ wm,w.alloc (.cells #[.int .u8 32] 5 (1,2))=wm:=⟨_,rfl⟩;have hba:Below w.heap.size w wm:=by rw [← hwm];exact (Below.refl _ _).alloc (Nat.le_refl _) _
 have HA:=Lib.hid hba;have HM:=Lib.hid (by rw [← hwm];exact mark_cell w 5 32:wm.cell? ⟨w.heap.size,0,none⟩=some (.int .u8 32))
 have H:=Lib.hid h;have HT:=Lib.hid hN;have HN:=Lib.hid hn;rw [show ((#[.int .u8 32]:Array Value).size,(#[.int .u8 32]:Array Value).size+1)=(1,2) from rfl,hwm] at C5
 clear hba h hN hwm
 by_cases h0:Lib.indexByte bs 32 < 0
 ·have e:cutD bs=none:=by unfold cutD;rw [if_pos h0]
  rw [e];have HI:=Lib.hid h0;clear e h0
  go_enter Tryz.func107,Tryz.ntmps107
  go_wp2_with fail
  refine (bcut_no b o n c w.heap.size bs wm HN.out hc hm (H.out.below HA.out) HM.out HI.out).mono ?_
  rintro e w1 ⟨rfl,q,rfl⟩;have HB:=Lib.hid (below_drewN HA.out q)
  go_wp2
  go_ret3
  exact ⟨rfl,HB.out⟩
 ·obtain ⟨i,hi⟩:∃ i:Nat,Lib.indexByte bs 32=i:=⟨(Lib.indexByte bs 32).toNat,by omega⟩
  obtain ⟨hil,_,_⟩:=digN_blank bs i hi;obtain ⟨r,hr⟩:∃ r,n=i+1+r:=⟨n - (i+1),by omega⟩
  have hti:(bs.take i).length=i:=by rw [List.length_take];omega
  have HD:Hid (cutD bs=match numD (bs.take i) with
   | none => none
   | some m => if m < i+4 ∨ bs.length < m ∨ bs.getD (m - 1) 0≠10 then none else some ((bs.drop (i+1)).take (m - 1 - (i+1)),m)):=Lib.hid (by
     unfold cutD;rw [if_neg h0,hi,Int.toNat_natCast]
     all_goals (cases numD (bs.take i)<;>rfl))
  have HI:=Lib.hid (And.intro hi hr);have HTI:=Lib.hid hti;have hi12:(i:Int)≤1000000000000:=by omega
  have hr12:(r:Int)≤1000000000000:=by omega
  have HIM:Hid (i≤1000000000000∧i≤n):=Lib.hid (by omega)
  clear hi h0 hti hil
  cases hnum:numD (bs.take i) with
  | none =>
    rw [hnum] at HD
    have HU:Hid (∀ w,BAt w (some ⟨b,o,none⟩) i (bs.take i) → Need w → Calls Tryz.prog 140 #[.slice (some ⟨b,o,none⟩) i c] w fun e w' => e=.returned (.tuple #[.int .i64 0,.bool false])∧Below w.heap.size w w'):=Lib.hid (fun w h1 h2 => by
     have:=recNum_any (some ⟨b,o,none⟩) i c (bs.take i) w HTI.out HIM.out.1 h1 h2;rw [hnum] at this
     exact this)
    rw [HD.out];clear hnum HD hr
    go_enter Tryz.func107,Tryz.ntmps107
    go_wp2_with fail
    refine (bcut_at b o n c w.heap.size i r bs wm HN.out hc hm (H.out.below HA.out) HM.out HI.out.1 HI.out.2).mono ?_
    rintro e w1 ⟨q2,c2,rfl,_,_,q,rfl⟩;have HB:=Lib.hid (below_drewN HA.out q)
    go_wp2_with fail
    refine (HU.out _ ((H.out.take HIM.out.2).below HB.out) (HT.out.below HB.out)).mono ?_
    rintro e w2 ⟨rfl,hb2⟩;have HB2:=Lib.hid (HB.out.trans (hb2.mono HB.out.size));clear hb2
    go_wp2
    go_ret3
    exact ⟨rfl,HB2.out⟩
  | some m =>
    have hm7:=(numD_some hnum).2.2.2.2.2;rw [hnum] at HD
    have HU:Hid (∀ w,BAt w (some ⟨b,o,none⟩) i (bs.take i) → Need w → Calls Tryz.prog 140 #[.slice (some ⟨b,o,none⟩) i c] w fun e w' => e=.returned (.tuple #[.int .i64 (m:Int),.bool true])∧Below w.heap.size w w'):=Lib.hid (fun w h1 h2 => by
     have:=recNum_any (some ⟨b,o,none⟩) i c (bs.take i) w HTI.out HIM.out.1 h1 h2;rw [hnum] at this
     exact this)
    have hm7i:(m:Int) < 10000000:=by omega
    by_cases hbad:m < i+4 ∨ n < m
    ·have hin:inB ((m:Int) - (i:Int) - 1) 3 (r:Int)=false:=inB_false (by omega)
     have HE:Hid (cutD bs=none):=Lib.hid (by
      rw [HD.out];simp only
      rw [if_pos (by rw [HN.out];rcases hbad with h | h;exact .inl h;exact .inr (.inl h))])
     rw [HE.out];have HIN:=Lib.hid hin;clear hnum HD hr hm7 hin hbad
     go_enter Tryz.func107,Tryz.ntmps107
     go_wp2_with fail
     refine (bcut_at b o n c w.heap.size i r bs wm HN.out hc hm (H.out.below HA.out) HM.out HI.out.1 HI.out.2).mono ?_
     rintro e w1 ⟨q2,c2,rfl,_,_,q,rfl⟩;have HB:=Lib.hid (below_drewN HA.out q)
     go_wp2_with fail
     refine (HU.out _ ((H.out.take HIM.out.2).below HB.out) (HT.out.below HB.out)).mono ?_
     rintro e w2 ⟨rfl,hb2⟩;have HB2:=Lib.hid (HB.out.trans (hb2.mono HB.out.size));clear hb2
     go_wp2_with fail
     refine (in_any _ _ _ _).mono ?_
     rw [HIN.out];rintro e w3 ⟨rfl,rfl⟩
     go_wp2
     go_ret3
     exact ⟨rfl,HB2.out⟩
    ·obtain ⟨v,hv⟩:∃ v,m=i+2+v:=⟨m - (i+2),by omega⟩
     have hin:inB ((v:Int)+1) 3 (r:Int)=true:=inB_true (by omega) (by omega)
     have HIN:=Lib.hid hin;have hown:(m:Int) - (i:Int) - 1=(v:Int)+1:=by omega
     have hvr:(v:Int) < (r:Int):=by omega
     have HVR:Hid (v < r∧v≤r):=Lib.hid (by omega)
     obtain ⟨C,hC⟩:∃ C:Nat,(bs.getD (m - 1) 0).toNat=C:=⟨_,rfl⟩
     have HC:Hid (((bs.drop (i+1)).getD v 0).toNat=C):=Lib.hid (by
      rw [← hC,show m - 1=i+1+v by omega]
      simp [List.getD])
     have HDL:Hid ((bs.drop (i+1)).length=r):=Lib.hid (by rw [List.length_drop];omega)
     by_cases h10:bs.getD (m - 1) 0=10
     ·have hb:((C:Int) != 10)=false:=by rw [← hC,h10];rfl
      have HE:Hid (cutD bs=some ((bs.drop (i+1)).take v,m)):=Lib.hid (by
       rw [HD.out];simp only
       rw [if_neg (by
        rw [HN.out];rintro (h | h | h)
        ·exact hbad (.inl h)
        ·exact hbad (.inr h)
        ·exact h h10),show m - 1 - (i+1)=v by omega])
      rw [HE.out];clear hnum HD hr hm7 hin hbad hC h10 hv
      go_enter Tryz.func107,Tryz.ntmps107
      go_wp2_with fail
      refine (bcut_at b o n c w.heap.size i r bs wm HN.out hc hm (H.out.below HA.out) HM.out HI.out.1 HI.out.2).mono ?_
      rintro e w1 ⟨q2,c2,rfl,hr2,hbt,q,rfl⟩;have HB:=Lib.hid (below_drewN HA.out q);have HBT:=Lib.hid hbt;clear hbt
      go_wp2_with fail
      refine (HU.out _ ((H.out.take HIM.out.2).below HB.out) (HT.out.below HB.out)).mono ?_
      rintro e w2 ⟨rfl,hb2⟩;have HB2:=Lib.hid (HB.out.trans (hb2.mono HB.out.size));have HBT2:=Lib.hid (HBT.out.below hb2);clear hb2;obtain ⟨b3,o3,rfl,hc3⟩:=HBT2.out (by have:=HVR.out;omega)
      have g0:=hc3 v HVR.out.1;rw [HC.out] at g0;have cs:=conv_at (HBT2.out.take HVR.out.2) (by rw [List.length_take,HDL.out];have:=HVR.out;omega) 24 5 9 Tryz.underlying24 Tryz.underlying5 Tryz.underlying9 c2
      have HE3:Hid ((⟨((bs.drop (i+1)).take v).toArray⟩:ByteArray)=str ((bs.drop (i+1)).take v)):=Lib.hid rfl;clear hc3
      go_wp2_with fail
      refine (in_any _ _ _ _).mono ?_
      rw [HIN.out];rintro e w3 ⟨rfl,rfl⟩
      go_wp2
      go_ret3
      exact ⟨rfl,HB2.out⟩
     ·have hb:((C:Int) != 10)=true:=by
       have:¬ C=10:=fun e => h10 (UInt8.toNat_inj.1 (by rw [hC,e];rfl))
       simp;omega
      have HE:Hid (cutD bs=none):=Lib.hid (by
       rw [HD.out];simp only
       rw [if_pos (.inr (.inr h10))])
      rw [HE.out];clear hnum HD hr hm7 hin hbad hC h10 hv
      go_enter Tryz.func107,Tryz.ntmps107
      go_wp2_with fail
      refine (bcut_at b o n c w.heap.size i r bs wm HN.out hc hm (H.out.below HA.out) HM.out HI.out.1 HI.out.2).mono ?_
      rintro e w1 ⟨q2,c2,rfl,hr2,hbt,q,rfl⟩;have HB:=Lib.hid (below_drewN HA.out q);have HBT:=Lib.hid hbt;clear hbt
      go_wp2_with fail
      refine (HU.out _ ((H.out.take HIM.out.2).below HB.out) (HT.out.below HB.out)).mono ?_
      rintro e w2 ⟨rfl,hb2⟩;have HB2:=Lib.hid (HB.out.trans (hb2.mono HB.out.size));have HBT2:=Lib.hid (HBT.out.below hb2);clear hb2;obtain ⟨b3,o3,rfl,hc3⟩:=HBT2.out (by have:=HVR.out;omega)
      have g0:=hc3 v HVR.out.1;rw [HC.out] at g0;clear hc3
      go_wp2_with fail
      refine (in_any _ _ _ _).mono ?_
      rw [HIN.out];rintro e w3 ⟨rfl,rfl⟩
      go_wp2
      go_ret3
      exact ⟨rfl,HB2.out⟩
end Go.Proofs.YtnpkcneojilmkaaGreatDoor.Rec
end
