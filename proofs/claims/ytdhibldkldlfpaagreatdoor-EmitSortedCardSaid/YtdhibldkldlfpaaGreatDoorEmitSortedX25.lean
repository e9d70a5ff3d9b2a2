/- Merged. -/
import Derived.Test.YtdhibldkldlfpaaGreatDoorEmitSortedX24
import Derived.Lib.ParseIntB
import Derived.Lib.AtoiTie
import Derived.Lib.ItoaNum
import Derived.Test.YtdhibldkldlfpaaGreatDoorEmitSortedX19
import Derived.Lib.LaidTab
import Derived.Test.YtdhibldkldlfpaaGreatDoorEmitSortedX6
import Derived.Test.YtdhibldkldlfpaaGreatDoorEmitSortedX10
namespace Go.Proofs.YtdhibldkldlfpaaGreatDoor
namespace Attr
end Attr
namespace Mem
end Mem
set_option linter.unusedVariables false
set_option maxHeartbeats 1000000
set_option maxRecDepth 100000
variable {n:Int} {b l v:List UInt8} {k:Nat}
namespace Rec
open Go.Lib Path
theorem Kd (u:Nat):decDigits u=aJ u:=by
 induction u using Nat.strongRecOn with
 |ind u ih=>
  by_cases h:u<10
  ·rw[decDigits,dif_pos h,eE h,xK,Nat.mod_eq_of_lt h]
  ·rw[decDigits,dif_neg h,gr h,ih _ (by omega)]
   rfl
theorem Hj (u:Nat):itoa (u:Int)=aJ u:=by
 unfold itoa;rw[if_neg (by omega),Int.toNat_natCast,Kd]
theorem DC (l:List UInt8):∀acc k,acc<10 ^ k→k+l.length≤18→parseUintM (2 ^ 64 - 1) acc l=if l.all bj then .ok (l.foldl (fun n b=>n*10+(b.toNat - 48)) acc)else NumEnd.ofOption none:=by
 induction l with
 |nil=>intro acc k _ _;rfl
 |cons c r ih=>
  intro acc k h1 A;rw[List.length_cons]at A;have B:10 ^ k≤10 ^ 17:=Nat.pow_le_pow_right (by omega) (by omega);have D:(10:Nat) ^ 17=100000000000000000:=by decide
  rw[D]at B;rw[parseUintM,List.all_cons,List.foldl_cons]
  by_cases hc:48≤c.toNat∧c.toNat≤57
  ·have hd:bj c=true:=by simp[bj,hc]
   rw[if_pos hc,if_neg (by omega),if_neg (by have:(2:Nat) ^ 64 - 1=18446744073709551615:=by decide
                                             omega),hd,Bool.true_and]
   exact ih _ (k+1) (by rw[Nat.pow_succ];omega) (by omega)
  ·have hd:bj c=false:=by simp[bj];omega
   rw[if_neg hc,hd];rfl
theorem Io (l:List UInt8) (h1:1≤l.length) (h2:l.length≤18):parseUintB 64 l=if l.all bj then .ok (gJ l)else NumEnd.ofOption none:=by
 unfold parseUintB;rw[if_neg (by rintro rfl;simp at h1),DC l 0 0 (by decide) (by omega)];rfl
def l8 (l:List UInt8):Option Nat:=if l.length<1∨7<l.length∨l.getD 0 0=48 then none else if l.all bj then some (gJ l)else none
theorem wH {m:Nat} (h:l8 l=some m):1≤l.length∧l.length≤7∧l.getD 0 0≠48∧(∀b∈l,bj b=true)∧m=gJ l∧m<10000000:=by
 unfold l8 at h;split at h
 ·cases h
 ·next h1=>
  split at h
  ·next B=>
   cases h
   have A:=List.all_eq_true.1 B;refine⟨by omega,by omega,fun e=>h1 (.inr (.inr e)),A,rfl,?_⟩;have D:=FF l A;have E:10 ^ l.length≤10 ^ 7:=Nat.pow_le_pow_right (by omega) (by omega);have G:(10:Nat) ^ 7=10000000:=by decide
   omega
  ·cases h
def oz (l:List UInt8):Option (List UInt8 × Nat):=
 if indexByte l 32<0 then none
 else match l8 (l.take (indexByte l 32).toNat)with
 |none=>none
 |some m=>
  if m<(indexByte l 32).toNat+4∨l.length<m∨l.getD (m - 1) 0≠10 then none
  else some ((l.drop ((indexByte l 32).toNat+1)).take (m - 1 - ((indexByte l 32).toNat+1)),m)
theorem sD (l:List UInt8) (i:Nat) (hi:indexByte l 32=i):i<l.length∧l.getD i 0=32∧(∀j,j<i→l.getD j 0≠32):=by
 have h1:=Lib.indexByte_some hi;have D:=(List.getElem?_eq_some_iff.1 h1.1).1;refine⟨D,by rw[List.getD,h1.1];rfl,fun j E e=>?_⟩;have A:=h1.2 j E;have B:j<l.length:=by omega
 rw[List.getD,Qd B]at e;rw[Qd B]at A;exact A (by rw[←e];rfl)
theorem yC (R T:Int) (l:List UInt8):dA R T l=match oz l with
 |none=>.error R
 |some (t,m)=>if indexByte t 61<1 then .error R else if aQ t=false then .error T else .ok (t.take (indexByte t 61).toNat,t.drop ((indexByte t 61).toNat+1),m):=by
 obtain⟨c,W⟩:=GD l;unfold oz
 by_cases I:indexByte l 32<0
 ·rw[if_pos I]
  simp only;unfold dA;rw[if_pos];have d:indexByte l 32=-1:=by have:=Lib.indexByte_ge l 32;omega
  by_cases hl:gu l=l.length
  ·exact .inr (.inr (.inr (.inl hl)))
  ·refine .inr (.inr (.inr (.inr fun e=>?_)))
   have hc:l.contains 32=false:=by rw[←cr.pS,decide_eq_false (by omega)]
   exact cr.G1 hc (gu l) (by omega) e
 ·rw[if_neg I]
  obtain⟨i,hi⟩:∃i:Nat,indexByte l 32=i:=⟨(indexByte l 32).toNat,by omega⟩
  obtain⟨Z,E,M⟩:=sD l i hi;rw[hi,Int.toNat_natCast];have J:(l.take i).length=i:=by rw[Qg];omega
  have D:∀j,j<i→(l.take i).getD j 0=l.getD j 0:=fun j A=>by
   rw[List.getD,List.getD,List.getElem?_take,if_pos A]
  cases B:l8 (l.take i)with
  |none=>
   simp only;unfold dA;rw[if_pos]
   by_cases H:(l.take i).all bj=true
   ·have G:gu l=i:=EA l i (by omega) (fun j A=>by
     rw[←D j A];have:j<(l.take i).length:=by omega
     rw[List.getD,Qd this]
     exact List.all_eq_true.1 H _ (List.getElem_mem this)) (.inr (by rw[E];decide))
    unfold l8 at B;rw[H,if_pos rfl,J]at B
    by_cases hc:i<1∨7<i∨(l.take i).getD 0 0=48
    ·rw[G]
     rcases hc with h|h|h
     ·exact .inl h
     ·exact .inr (.inl h)
     ·by_cases U:i<1
      ·exact .inl U
      ·rw[D 0 (by omega)]at h
       exact .inr (.inr (.inl h))
    ·rw[if_neg hc]at B
     cases B
   ·
    have V:gu l<i:=by
     rcases Nat.lt_or_ge (gu l) i with h|h
     ·exact h
     ·exfalso
      refine H (List.all_eq_true.2 fun b X=>W b ?_);obtain⟨j,A,rfl⟩:=List.mem_iff_getElem.1 X;rw[List.getElem_take];have L:j<(l.take (gu l)).length:=by rw[Qg];omega
      have:(l.take (gu l))[j]=l[j]'(by omega):=List.getElem_take;rw[←this];exact List.getElem_mem L
    exact .inr (.inr (.inr (.inr (M _ V))))
  |some m=>
   obtain⟨Y,n7,n48,O,N,_⟩:=wH B;rw[J]at Y n7;rw[D 0 (by omega)]at n48
   have G:gu l=i:=EA l i (by omega) (fun j A=>by
    rw[←D j A];have:j<(l.take i).length:=by omega
    rw[List.getD,Qd this]
    exact O _ (List.getElem_mem this)) (.inr (by rw[E];decide))
   simp only;unfold dA
   rw[G,←N,if_neg (by
    rintro(e|e|e|e|e)
    ·omega
    ·omega
    ·exact n48 e
    ·omega
    ·exact e E)]
   by_cases hc:m<i+4∨l.length<m∨l.getD (m - 1) 0≠10
   ·rw[if_pos hc,if_pos (by
     rcases hc with h|h|h
     ·exact .inr (.inl h)
     ·exact .inl h
     ·exact .inr (.inr h))]
   ·rw[if_neg hc,if_neg (by
     rintro(e|e|e)
     ·exact hc (.inr (.inl e))
     ·exact hc (.inl e)
     ·exact hc (.inr (.inr e)))]
theorem Am (m:Nat) (hm:0<m):gU m=m+(aJ m).length∧(aJ (m+(aJ m).length)).length=(aJ m).length∨
 gU m=m+(aJ (m+(aJ m).length)).length∧(aJ (m+(aJ m).length)).length≠(aJ m).length∧(aJ (m+(aJ (m+(aJ m).length)).length)).length=(aJ (m+(aJ m).length)).length:=by
 have he:=tu m hm
 by_cases h:(aJ (m+(aJ m).length)).length=(aJ m).length
 ·left
  unfold gU;rw[if_pos h];exact⟨rfl,h⟩
 ·right
  have hl:gU m=m+(aJ m).length+1:=by unfold gU;rw[if_neg h]
  rw[hl]at he;have h1:=lL (show m+(aJ m).length≤m+(aJ m).length+1 by omega);have B:=lL (show m≤m+(aJ m).length by omega);have A:(aJ (m+(aJ m).length)).length=(aJ m).length+1:=by omega
  refine⟨by rw[hl,A];omega,h,?_⟩;rw[A,←Nat.add_assoc];omega
end Rec
namespace Attr
open Go.Lib Rec Hp
variable {k:List UInt8}
abbrev ca:=List (List UInt8 × List UInt8)
def aG:ca→List UInt8→Option (List UInt8)
 |[],_=>none
 |r::rs,k=>match aG rs k with
  |some v=>some v
  |none=>if r.1=k then some r.2 else none
theorem mP (a b:ca) (k:List UInt8):aG (a++b) k=match aG b k with
 |some v=>some v
 |none=>aG a k:=by
 induction a with
 |nil=>cases h:aG b k<;>simp[aG,h]
 |cons r a ih=>
  rw[List.cons_append,aG,ih]
  cases h:aG b k with
  |some v=>rfl
  |none=>rfl
theorem C9 (a:ca) (r:List UInt8 × List UInt8) (k:List UInt8):aG (a++[r]) k=if r.1=k then some r.2 else aG a k:=by
 rw[mP]
 by_cases h:r.1=k<;>simp[aG,h]
theorem tj {rs:ca} (h:∀r∈rs,r.1≠k):aG rs k=none:=by
 induction rs with
 |nil=>rfl
 |cons r rs ih=>
  rw[aG,ih fun x A=>h x (List.mem_cons_of_mem _ A)];simp[h r (List.mem_cons_self ..)]
theorem wu {rs:ca} (h:aG rs k=some v):∃r∈rs,r.1=k∧r.2=v:=by
 induction rs with
 |nil=>cases h
 |cons r rs ih=>
  rw[aG]at h
  cases hl:aG rs k with
  |some u=>
   rw[hl]at h ih;obtain⟨x,A,h1⟩:=ih h;exact⟨x,List.mem_cons_of_mem _ A,h1⟩
  |none=>
   rw[hl]at h
   by_cases hk:r.1=k
   ·simp only[hk,if_true]at h
    exact⟨r,List.mem_cons_self ..,hk,Option.some.inj h⟩
   ·simp[hk]at h
def dZ (F:List UInt8→Option (List UInt8)) (own:ca) (k:List UInt8):List UInt8:=match aG own k with
 |some v=>v
 |none=>(F k).getD []
def oY:List UInt8→Option (List UInt8):=fun _=>none
def fQ (F:List UInt8→Option (List UInt8)) (rs:ca):List UInt8→Option (List UInt8):=fun k=>match aG rs k with
 |some v=>some v
 |none=>F k
theorem wE (F:List UInt8→Option (List UInt8)):fQ F []=F:=rfl
theorem Dp (F:List UInt8→Option (List UInt8)) (rs:ca) (r:List UInt8 × List UInt8):fQ F (rs++[r])=fun k=>if k=r.1 then some r.2 else fQ F rs k:=by
 funext k
 unfold fQ;rw[C9]
 by_cases h:k=r.1
 ·simp[h]
 ·have:¬r.1=k:=fun e=>h e.symm
  simp[h,this]
theorem Dn (F:List UInt8→Option (List UInt8)) (a b:ca):fQ (fQ F a) b=fQ F (a++b):=by
 funext k
 unfold fQ;rw[mP]
 cases aG b k<;>rfl
theorem tE (rs:ca):fQ oY rs=aG rs:=by
 funext k
 unfold fQ oY
 cases aG rs k<;>rfl
def vf (l:List UInt8):Option Nat:=
 if 0≤indexByte l 46 then(if(l.drop ((indexByte l 46).toNat+1)).all bj then dj (l.take (indexByte l 46).toNat)else none)else dj l
def aI:Nat→List UInt8
 |0=>[117,105,100]|1=>[103,105,100]|2=>[109,116,105,109,101]|3=>[115,105,122,101]|4=>[112,97,116,104]|_=>[108,105,110,107,112,97,116,104]
def ef (time:Bool) (v:List UInt8) (old:Int):Option Int:=
 if v=[]then some old else Option.map Int.ofNat (if time then vf v else dj v)
def aE (v old:List UInt8):List UInt8:=if v=[]then old else v
def fa (V:Nat→List UInt8) (h:ak):ak × Int:=
 match ef false (V 0) h.uid,ef false (V 1) h.gid,ef true (V 2) h.time,ef false (V 3) h.size with
 |some u,some g,some t,some s=>({h with name:=aE (V 4) h.name,link:=aE (V 5) h.link,uid:=u,gid:=g,time:=t,size:=s},0)
 |_,_,_,_=>(bI,4)
def cE (F:List UInt8→Option (List UInt8)) (own:ca) (h:ak):ak × Int:=fa (fun i=>dZ F own (aI i)) h
theorem zz (l:List UInt8) (h:∀b∈l,bj b=true):∀acc,decFrom acc l=some (l.foldl (fun n b=>n*10+(b.toNat - 48)) acc):=by
 induction l with
 |nil=>intro acc;rfl
 |cons c l ih=>
  intro acc;have hc:=h c (List.mem_cons_self ..);simp only[bj,decide_eq_true_eq]at hc
  have hd:digitVal c=some (c.toNat - 48):=by
   simp[digitVal];omega
  rw[decFrom,hd];exact ih (fun b A=>h b (List.mem_cons_of_mem _ A)) _
theorem J1 (l:List UInt8) (h0:l≠[]) (h:∀b∈l,bj b=true):atoi l=some (gJ l:Int):=by
 cases l with
 |nil=>exact absurd rfl h0
 |cons c l=>
  have hc:=h c (List.mem_cons_self ..);simp only[bj,decide_eq_true_eq]at hc;have B:(c==45)=false:=beq_eq_false_iff_ne.2 fun e=>by subst e;exact absurd hc.1 (by decide)
  have A:(c==43)=false:=beq_eq_false_iff_ne.2 fun e=>by subst e;exact absurd hc.1 (by decide)
  unfold atoi;simp only[B,A,decNat,List.isEmpty_cons,zz _ h];rfl
theorem Mo (l:List UInt8):(trimS l [48,49,50,51,52,53,54,55,56,57]=[])↔∀b∈l,bj b=true:=by
 have hd:∀b:UInt8,([48,49,50,51,52,53,54,55,56,57]:List UInt8).contains b=bj b:=fun b=>by
  rw[Bool.eq_iff_iff];simp only[List.contains_iff_mem,bj,decide_eq_true_eq,List.mem_cons,List.not_mem_nil,or_false];constructor
  ·rintro(rfl|rfl|rfl|rfl|rfl|rfl|rfl|rfl|rfl|rfl)<;>decide
  ·intro h
   have e:∀n:Nat,b.toNat=n→b=UInt8.ofNat n:=fun n H=>by rw[←H];simp
   have:b.toNat=48∨b.toNat=49∨b.toNat=50∨b.toNat=51∨b.toNat=52∨b.toNat=53∨b.toNat=54∨b.toNat=55∨b.toNat=56∨b.toNat=57:=by omega
   rcases this with h|h|h|h|h|h|h|h|h|h<;>(have:=e _ h;subst this;decide)
 have E:∀l:List UInt8,l.dropWhile (([48,49,50,51,52,53,54,55,56,57]:List UInt8).contains ·)=[]↔∀b∈l,bj b=true:=fun l=>by
  induction l with
  |nil=>simp
  |cons c l ih=>
   rw[List.dropWhile_cons]
   by_cases hc:bj c=true
   ·rw[if_pos (by rw[hd];exact hc),ih]
    simp[hc]
   ·rw[if_neg (by rw[hd];exact hc)]
    simp[hc]
 have G:∀l:List UInt8,(∃b∈l,bj b=false)→∃b∈trimRightS l [48,49,50,51,52,53,54,55,56,57],bj b=false:=fun l h=>by
  unfold trimRightS;obtain⟨b,A,D⟩:=h
  have:∀m:List UInt8,b∈m→b∈m.dropWhile (([48,49,50,51,52,53,54,55,56,57]:List UInt8).contains ·):=fun m=>by
   induction m with
   |nil=>intro h;exact h
   |cons c m ih=>
    intro hm;rw[List.dropWhile_cons]
    by_cases hc:bj c=true
    ·rw[if_pos (by rw[hd];exact hc)]
     rcases List.mem_cons.1 hm with rfl|hm
     ·rw[D]at hc;cases hc
     ·exact ih hm
    ·rw[if_neg (by rw[hd];exact hc)]
     exact hm
  exact⟨b,List.mem_reverse.2 (this _ (List.mem_reverse.2 A)),D⟩
 unfold trimS trimLeftS;rw[E];constructor
 ·intro h b A
  cases D:bj b with
  |true=>rfl
  |false=>
   obtain⟨c,hc,B⟩:=G l ⟨b,A,D⟩;rw[h c hc]at B
   cases B
 ·intro h b A
  refine h b ?_;unfold trimRightS at A;exact List.mem_reverse.1 ((List.dropWhile_suffix _).subset (List.mem_reverse.1 A))
end Attr
namespace Mem
open Go.Lib Fp Hp Path Rec Attr
variable {e:Int} {H L t body:List UInt8} {F:List UInt8→Option (List UInt8)} {V:Nat→List UInt8} {h:ak}
structure aq where
 path:List UInt8
 target:List UInt8
 kind:UInt8
 mode:Int
 uid:Int
 gid:Int
 time:Int
 body:List UInt8
deriving instance DecidableEq for aq
def ey (mode uid gid time:Int):Bool:=decide (0≤mode∧mode≤4095∧0≤uid∧uid<2147483648∧0≤gid∧gid<2147483648∧0≤time∧time≤1099511627776)
def dn (l:List UInt8):Bool:=decide (bz 9 6 l=(l,0))
def bD (m:aq):Bool:=
 dn m.path&&ey m.mode m.uid m.gid m.time&&decide (m.body.length≤1048576)&&(m.kind==48||m.body==[])&&
  (if m.kind=48∨m.kind=53 then m.target==[]else if m.kind=49 then dn m.target else if m.kind=50 then decide (dc 9 6 m.target=0)else false)
structure RS where
 out:List aq
 cW:ca
 own:ca
 name:Option (List UInt8)
 link:Option (List UInt8)
 eD:Bool
inductive Step where
 |fault (e:Int)
 |done
 |next (k:Nat) (s:RS)
def aV (n:Nat):Nat:=(n+511) / 512*512
def qt (l:List UInt8) (n:Int):Option (List UInt8 × Nat):=
 if 2097152<n∨l.length - 512<aV n.toNat then none else some ((l.drop 512).take n.toNat,512+aV n.toNat)
def ja (l:List UInt8) (h:ak) (s:RS):Step:=
 if(h.kind=120∧s.eD=true)∨(h.kind=76∧s.name.isSome=true)∨(h.kind=75∧s.link.isSome=true)then .fault 5
 else if 1048576<h.size then .fault 10
 else match qt l h.size with
  |none=>.fault 2
  |some (t,k)=>
   if h.kind=76 then .next k {s with name:=some (aF t)}
   else if h.kind=75 then .next k {s with link:=some (aF t)}
   else if(cI 5 9 t).2≠0 then .fault (cI 5 9 t).2
   else if h.kind=103 then .next k {s with cW:=s.cW++(cI 5 9 t).1}
   else .next k {s with eD:=true,own:=(cI 5 9 t).1}
def oV (h:ak) (s:RS):Except Int (aq × Int):=
 let a:=cE (aG s.cW) s.own {h with name:=s.name.getD h.name,link:=s.link.getD h.link}
 let c:=bz 9 6 a.1.name
 let d:=bz 9 6 a.1.link
 let t:=dc 9 6 a.1.link
 if a.2≠0 then .error a.2
 else if c.2≠0 then .error c.2
 else if ey a.1.mode a.1.uid a.1.gid a.1.time=false then .error 4
 else if a.1.kind=49∧d.2≠0 then .error d.2
 else if a.1.kind=50∧t≠0 then .error t
 else if a.1.kind≠48∧a.1.size≠0 then .error 4
 else if 1048576<a.1.size then .error 10
 else .ok (⟨c.1,if a.1.kind=49 then d.1 else if a.1.kind=50 then a.1.link else[],a.1.kind,a.1.mode,a.1.uid,a.1.gid,a.1.time,[]⟩,a.1.size)
def oU (l:List UInt8) (h:ak) (s:RS):Step:=
 if 4096≤s.out.length then .fault 10
 else if h.kind≠48∧h.kind≠49∧h.kind≠50∧h.kind≠53 then .fault 8
 else match oV h s with
  |.error e=>.fault e
  |.ok (m,n)=>match qt l n with
   |none=>.fault 2
   |some (t,k)=>.next k {s with out:=s.out++[{m with body:=t}],own:=[],name:=none,link:=none,eD:=false}
def dy (l:List UInt8):Bool:=l.all (·==0)
def oL (k:UInt8):Bool:=k==120||k==103||k==76||k==75
def dK (l:List UInt8) (s:RS):Step:=
 if l.length<512 then .fault 2
 else if dy (l.take 512)then
  if l.length - 512<512 then .fault 2
  else if dy (l.drop 512)=false then .fault 9
  else if s.eD=true∨s.name.isSome=true∨s.link.isSome=true then .fault 5
  else .done
 else if(ba (l.take 512)).2≠0 then .fault (ba (l.take 512)).2
 else if oL (ba (l.take 512)).1.kind then ja l (ba (l.take 512)).1 s
 else oU l (ba (l.take 512)).1 s
def nS:Nat→List UInt8→Nat→RS→List aq × Int × Nat
 |0,_,_,_=>([],2,0)
 |f+1,l,at_,s=>match dK l s with
  |.fault e=>([],e,at_)
  |.done=>(s.out,0,0)
  |.next k s'=>nS f (l.drop k) (at_+k) s'
def bJ (l:List UInt8) (at_:Nat) (s:RS):List aq × Int × Nat:=nS (l.length+1) l at_ s
def gI:RS:=⟨[],[],[],none,none,false⟩
def cG (b:List UInt8):List aq × Int × Nat:=bJ b 0 gI
theorem kH (h:qt l n=some (t,k)):k=512+aV n.toNat∧aV n.toNat≤l.length - 512∧t=(l.drop 512).take n.toNat∧n≤2097152:=by
 unfold qt at h;split at h
 ·cases h
 ·cases h
  exact⟨rfl,by omega,rfl,by omega⟩
theorem kB {s s':RS} (h:dK l s=.next k s'):512≤k∧k≤l.length:=by
 unfold dK at h;split at h
 ·cases h
 ·rename_i D
  split at h
  ·split at h
   ·cases h
   ·split at h
    ·cases h
    ·split at h<;>cases h
  ·split at h
   ·cases h
   ·split at h
    ·unfold ja at h
     split at h
     ·cases h
     ·split at h
      ·cases h
      ·split at h
       ·cases h
       ·rename_i t k' A
        obtain⟨h1,B,_,_⟩:=kH A
        have hk:k=k':=by
         split at h
         ·cases h;rfl
         ·split at h
          ·cases h;rfl
          ·split at h
           ·cases h
           ·split at h<;>(cases h;rfl)
        omega
    ·unfold oU at h
     split at h
     ·cases h
     ·split at h
      ·cases h
      ·split at h
       ·cases h
       ·split at h
        ·cases h
        ·rename_i t k' A
         obtain⟨h1,B,_,_⟩:=kH A
         cases h
         omega
theorem AP (n:Nat):∀m l at_ s,l.length<n→l.length<m→nS n l at_ s=nS m l at_ s:=by
 induction n with
 |zero=>intro m l at_ s h;omega
 |succ n ih=>
  intro m l at_ s h1 A
  cases m with
  |zero=>omega
  |succ m=>
   rw[nS,nS]
   cases hs:dK l s with
   |fault e=>rfl
   |done=>rfl
   |next k B=>
    obtain⟨g1,g2⟩:=kB hs;exact ih m _ _ _ (by rw[Qe];omega) (by rw[Qe];omega)
theorem j1 (l:List UInt8) (at_:Nat) (s:RS):bJ l at_ s=match dK l s with
 |.fault e=>([],e,at_)
 |.done=>(s.out,0,0)
 |.next k s'=>bJ (l.drop k) (at_+k) s':=by
 unfold bJ;rw[nS]
 cases hs:dK l s with
 |fault e=>rfl
 |done=>rfl
 |next k s'=>
  obtain⟨g1,g2⟩:=kB hs;exact AP _ _ _ _ _ (by rw[Qe];omega) (by omega)
theorem eL {s:RS} (h:dK l s=.fault e) (at_:Nat):bJ l at_ s=([],e,at_):=by rw[j1,h]
theorem gM {s:RS} (h:dK l s=.done) (at_:Nat):bJ l at_ s=(s.out,0,0):=by rw[j1,h]
theorem fj {s s':RS} (h:dK l s=.next k s') (at_:Nat):bJ l at_ s=bJ (l.drop k) (at_+k) s':=by rw[j1,h]
def ke (l:List UInt8):Bool:=l.all fun b=>decide (b.toNat≤127)
def bp:List UInt8:=[64,108,111,110,103]
def U5:List UInt8:=[64,112,97,120]
def yy (n:Nat):ak:=⟨U5,[],120,0,0,0,0,(n:Int),false⟩
def ix (m:aq):Bool:=(gq m.path).isNone||!ke m.path
def gh (m:aq):Bool:=decide (100<m.target.length)||!ke m.target
def bh (m:aq):ak:=
 ⟨if ix m then bp else m.path,if gh m then bp else m.target,m.kind,m.mode,if 2097151<m.uid then 0 else m.uid,if 2097151<m.gid then 0 else m.gid,if 8589934591<m.time then 0 else m.time,(m.body.length:Int),false⟩
def aO (m:aq):ca:=
 (if ix m then[(aI 4,m.path)]else[])++(if gh m then[(aI 5,m.target)]else[])++(if 2097151<m.uid then[(aI 0,aJ m.uid.toNat)]else[])++
  (if 2097151<m.gid then[(aI 1,aJ m.gid.toNat)]else[])++(if 8589934591<m.time then[(aI 2,aJ m.time.toNat)]else[])
def kr (l:List UInt8):List UInt8:=l++List.replicate (aV l.length - l.length) 0
def fY (m:aq):List UInt8:=
 (if aN (aO m)=[]then[]else(fi (yy (aN (aO m)).length)).getD []++kr (aN (aO m)))++((fi (bh m)).getD []++kr m.body)
def vF (ms:List aq):List UInt8:=(ms.map fY).flatten++List.replicate 1024 0
theorem j9 (n:Nat):n≤aV n∧aV n<n+512:=by unfold aV;omega
theorem bE (l:List UInt8):(kr l).length=aV l.length:=by
 have:=(j9 l.length).1;simp only[kr,Qf,List.length_replicate];omega
theorem vK (H body rest:List UInt8) (hH:H.length=512) (hb:body.length≤2097152):qt (H++(kr body++rest)) (body.length:Int)=some (body,512+aV body.length):=by
 unfold qt;have A:=bE body;rw[if_neg (by simp only[Qf,hH,A,Int.toNat_natCast];omega),Int.toNat_natCast]
 congr 2
 rw[←hH,List.drop_left,kr,List.append_assoc,List.take_left'];rfl
theorem zB (H body rest:List UInt8) (hH:H.length=512):(H++(kr body++rest)).drop (512+aV body.length)=rest:=by
 rw[←hH,←bE,List.drop_append,List.drop_append];simp
theorem nU (base:Int) (hb:0<base):∀(k:Nat) (n:Int),0≤n→n<base ^ k→dS base k n=0
 |0,n,h0,h1=>by simp only[Int.pow_zero]at h1;simp only[dS];omega
 |k+1,n,h0,h1=>by
  rw[dS];refine nU base hb k _ (Int.ediv_nonneg h0 (by omega)) (Int.ediv_lt_of_lt_mul hb ?_)
  rwa [Int.pow_succ]at h1
theorem qS (h0:0≤n) (h1:n<2097152):(fh n 8).isSome=true:=by
 rw[p8 h0 (by omega) (by omega) (by omega) (nU 8 (by omega) _ n h0 (by simpa using h1))];rfl
theorem tQ (h0:0≤n) (h1:n<8589934592):(fh n 12).isSome=true:=by
 rw[p8 h0 (by omega) (by omega) (by omega) (nU 8 (by omega) _ n h0 (by simpa using h1))];rfl
theorem Fs (hc:(gq h.name).isSome=true) (hb:lh h=false) (hn:fc h=true):∃H,fi h=some H∧H.length=512∧ba H=(h,0):=by
 obtain⟨ps,A⟩:=Option.isSome_iff_exists.1 hc
 have e:fi h=some (cu (rB h ps.1 ps.2)):=by
  unfold fi;rw[A];simp[hb,hn]
 exact⟨_,e,bV _,G5 e⟩
theorem sk (l:List UInt8) (h:∀b∈l,0<b.toNat∧b.toNat<128):aQ l=true:=by
 induction l with
 |nil=>exact qc
 |cons c l ih=>
  obtain⟨h1,A⟩:=zS c (h c (List.mem_cons_self ..)) l;rw[dY _ (by simp),if_pos h1,A];exact ih fun b B=>h b (List.mem_cons_of_mem _ B)
theorem qZ (h:aQ l=true):∀x∈l,x≠0:=by
 rw[uy,Bool.and_eq_true,Bool.not_eq_true']at h;intro x A e;subst e;have:=h.2;rw[List.contains_eq_mem,decide_eq_false_iff_not]at this;exact this A
theorem sC (n:Nat):aQ (aJ n)=true:=sk _ fun b A=>by
 have:=oA n b A;simp only[bj,decide_eq_true_eq]at this;omega
theorem Co (n:Nat):aJ n≠[]:=List.length_pos_iff.1 (fI n)
theorem qg {n:Nat} (h:n<10 ^ 18):dj (aJ n)=some n:=by
 have h1:=fI n;have B:=lK n 18 (by omega) h;have A:(aJ n).all bj=true:=List.all_eq_true.2 (oA n);rw[dj,if_neg (by omega),if_pos A,Bg]
theorem index_none (l:List UInt8) (c:UInt8) (h:c∉l):indexByte l c=-1:=by
 induction l with
 |nil=>rfl
 |cons b l ih=>
  have A:(b==c)=false:=beq_eq_false_iff_ne.2 fun e=>h (by rw[e];exact List.mem_cons_self ..)
  have hi:=ih fun hc=>h (List.mem_cons_of_mem _ hc)
  simp[indexByte,A,hi]
theorem OK {n:Nat} (h:n<10 ^ 18):vf (aJ n)=some n:=by
 have:indexByte (aJ n) 46=-1:=index_none _ _ fun hc=>by
  have:=oA n 46 hc;exact absurd this (by decide)
 rw[vf,this,if_neg (by omega),qg h]
structure dd (m:aq):Prop where
 path:bz 9 6 m.path=(m.path,0)
 PI:aQ m.path=true
 U4:m.path≠[]
 tN:m.path.length≤200
 mode:0≤m.mode∧m.mode≤4095
 uid:0≤m.uid∧m.uid<2147483648
 gid:0≤m.gid∧m.gid<2147483648
 time:0≤m.time∧m.time≤1099511627776
 body:m.body.length≤1048576
 file:m.kind≠48→m.body=[]
 kind:m.kind=48∨m.kind=49∨m.kind=50∨m.kind=53
 none:m.kind=48∨m.kind=53→m.target=[]
 QV:m.kind=49→bz 9 6 m.target=(m.target,0)
 sym:m.kind=50→dc 9 6 m.target=0
 PK:aQ m.target=true
 xk:m.target.length≤200
theorem qv (h:bz 9 6 l=(l,0)):aQ l=true∧l≠[]∧l.length≤200:=by
 have h1:=(ox 9 6 (by omega) (by omega) l l).1 h;have A:=nK 9 6 (by omega) (by omega) l l h;exact⟨h1.1,A.2.1,A.2.2.2⟩
theorem yM (h:dc 9 6 l=0):aQ l=true∧l≠[]∧l.length≤200:=by
 unfold dc at h;split at h
 ·omega
 ·rename_i h1
  split at h
  ·omega
  ·rename_i A
   simp only[not_or]at A;exact⟨by simpa using h1,A.1,by omega⟩
theorem eF {m:aq} (h:bD m=true):dd m:=by
 simp only[bD,Bool.and_eq_true,dn,ey,decide_eq_true_eq,Bool.or_eq_true,beq_iff_eq]at h;obtain⟨⟨⟨⟨h1,U⟩,L⟩,M⟩,A⟩:=h;obtain⟨O,R,T⟩:=qv h1
 have hk:(m.kind=48∨m.kind=49∨m.kind=50∨m.kind=53)∧((m.kind=48∨m.kind=53)→m.target=[])∧(m.kind=49→bz 9 6 m.target=(m.target,0))∧(m.kind=50→dc 9 6 m.target=0):=by
  split at A
  ·rename_i hk
   refine⟨by rcases hk with e|e<;>simp[e],fun _=>by simpa using A,fun e=>?_,fun e=>?_⟩<;>(rw[e]at hk;exact absurd hk (by decide))
  ·rename_i hk
   split at A
   ·rename_i B
    refine⟨by simp[B],fun e=>absurd e hk,fun _=>by simpa using A,fun e=>?_⟩;rw[B]at e;exact absurd e (by decide)
   ·rename_i B
    split at A
    ·rename_i J
     exact⟨by simp[J],fun e=>absurd e hk,fun e=>absurd e B,fun _=>by simpa using A⟩
    ·cases A
 obtain⟨G,D,H,I⟩:=hk
 have E:aQ m.target=true∧m.target.length≤200:=by
  rcases G with e|e|e|e
  ·rw[D (.inl e)];exact⟨qc,by simp⟩
  ·have:=qv (H e);exact⟨this.1,this.2.2⟩
  ·have:=yM (I e);exact⟨this.1,this.2.2⟩
  ·rw[D (.inr e)];exact⟨qc,by simp⟩
 exact⟨h1,O,R,T,by omega,by omega,by omega,by omega,L,fun N=>M.resolve_left N,G,D,H,I,E.1,E.2⟩
theorem vV {m:aq} (h:dd m):∃H,fi (bh m)=some H∧H.length=512∧ba H=(bh m,0):=by
 refine Fs ?_ ?_ ?_
 ·show(gq (if ix m then bp else m.path)).isSome=true
  split
  ·rfl
  ·rename_i A
   simp only[ix,Bool.or_eq_true,not_or,Bool.not_eq_true,Option.isNone_eq_false_iff]at A;exact A.1
 ·have G:(bh m).name.contains 0=false:=by
   show(if ix m then bp else m.path).contains 0=false;split
   ·decide
   ·rw[List.contains_eq_mem,decide_eq_false_iff_not]
    exact fun D=>qZ h.PI 0 D rfl
  have I:(bh m).link.contains 0=false:=by
   show(if gh m then bp else m.target).contains 0=false;split
   ·decide
   ·rw[List.contains_eq_mem,decide_eq_false_iff_not]
    exact fun D=>qZ h.PK 0 D rfl
  have hl:(bh m).link.length≤100:=by
   show(if gh m then bp else m.target).length≤100;split
   ·decide
   ·rename_i A
    simp only[gh,Bool.or_eq_true,not_or,Bool.not_eq_true,decide_eq_false_iff_not]at A;omega
  have hk:(m.kind==0)=false:=by rcases h.kind with e|e|e|e<;>rw[e]<;>decide
  have L:((bh m).kind==0)=false:=hk;have B:(bh m).fp=false:=rfl;have E:decide (100<(bh m).link.length)=false:=decide_eq_false (by omega);simp only[lh,G,I,L,B,E,Bool.or_false]
 ·refine du.2 fun i h1 M=>?_
  have hm:=h.mode;have hu:=h.uid;have B:=h.gid;have J:=h.time;have N:=h.body;obtain rfl|rfl|rfl|rfl|rfl:i=1∨i=2∨i=3∨i=4∨i=5:=by omega
  ·exact qS (n:=m.mode) hm.1 (by omega)
  ·show(fh (if 2097151<m.uid then 0 else m.uid) 8).isSome=true
   split
   ·exact qS (by omega) (by omega)
   ·exact qS hu.1 (by omega)
  ·show(fh (if 2097151<m.gid then 0 else m.gid) 8).isSome=true
   split
   ·exact qS (by omega) (by omega)
   ·exact qS B.1 (by omega)
  ·exact tQ (n:=(m.body.length:Int)) (by omega) (by omega)
  ·show(fh (if 8589934591<m.time then 0 else m.time) 12).isSome=true
   split
   ·exact tQ (by omega) (by omega)
   ·exact tQ J.1 (by omega)
theorem NG (name:List UInt8) (hn:name.length≤100) (hz:name.contains 0=false) (k:UInt8) (hk:k≠0) (n:Nat) (hs:n≤1048576):∃H,fi ⟨name,[],k,0,0,0,0,(n:Int),false⟩=some H∧H.length=512∧ba H=(⟨name,[],k,0,0,0,0,(n:Int),false⟩,0):=by
 refine Fs (by rw[nM hn];rfl) ?_ (du.2 fun i h1 A=>?_)
 ·have:(k==0)=false:=beq_eq_false_iff_ne.2 hk
  simp only[lh,hz,this,List.length_nil,List.contains_nil,Bool.or_false];rfl
 ·obtain rfl|rfl|rfl|rfl|rfl:i=1∨i=2∨i=3∨i=4∨i=5:=by omega
  ·exact qS (n:=0) (by omega) (by omega)
  ·exact qS (n:=0) (by omega) (by omega)
  ·exact qS (n:=0) (by omega) (by omega)
  ·exact tQ (n:=(n:Int)) (by omega) (by omega)
  ·exact tQ (n:=0) (by omega) (by omega)
theorem AG {n:Nat} (hs:n≤1048576):∃H,fi (yy n)=some H∧H.length=512∧ba H=(yy n,0):=NG U5 (by decide) (by decide) 120 (by decide) n hs
theorem oT (i:Nat) (hi:i<6) (h1:aQ v=true) (h2:v.length≤200):gz (aI i) v=true:=by
 have hk:(aI i).contains 61=false∧(aI i).isEmpty=false∧aQ (aI i)=true∧(aI i).length≤8:=by
  obtain rfl|rfl|rfl|rfl|rfl|rfl:i=0∨i=1∨i=2∨i=3∨i=4∨i=5:=by omega
  all_goals exact⟨by decide,by decide,sk _ (by decide),by decide⟩
 obtain⟨A,B,D,E⟩:=hk;simp only[gz,A,B,D,h1,Bool.not_false,Bool.true_and,decide_eq_true_eq];omega
theorem mJ (h0:0≤n) (h:n≤1099511627776):(aJ n.toNat).length≤18:=lK _ 18 (by omega) (by omega)
theorem gF {m:aq} (h:dd m):∀r∈aO m,gz r.1 r.2=true:=by
 intro r hr;have hu:=h.uid;have A:=h.gid;have B:=h.time;simp only[aO,List.mem_append]at hr
 have d:∀(c:Prop) [Decidable c] (k v:List UInt8),r∈(if c then[(k,v)]else[])→r=(k,v):=fun c _ k v hr=>by
  split at hr
  ·exact List.mem_singleton.1 hr
  ·cases hr
 rcases hr with(((hr|hr)|hr)|hr)|hr<;>(have e:=d _ _ _ hr;subst e)
 ·exact oT 4 (by omega) h.PI h.tN
 ·exact oT 5 (by omega) h.PK h.xk
 ·exact oT 0 (by omega) (sC _) (by have:=mJ hu.1 (by omega);show(aJ _).length≤200;omega)
 ·exact oT 1 (by omega) (sC _) (by have:=mJ A.1 (by omega);show(aJ _).length≤200;omega)
 ·exact oT 2 (by omega) (sC _) (by have:=mJ B.1 (by omega);show(aJ _).length≤200;omega)
theorem nx {l:ca} (h:∀r∈l,gz r.1 r.2=true):cI 5 9 (aN l)=(l,0):=by
 have:=DS 5 9 l [] [] h;rw[List.append_nil,List.nil_append,pf]at this;exact this
theorem tv {n:Nat}:∀{l:ca},(∀r∈l,gz r.1 r.2=true∧r.1.length+r.2.length≤n)→(aN l).length≤l.length*(n+10)
 |[],_=>by simp[aN]
 |r::l,h=>by
  have E:=tv fun x B=>h x (List.mem_cons_of_mem _ B)
  obtain⟨h1,D⟩:=h r (List.mem_cons_self ..);obtain⟨d,_,_,_,_,A,_,hlen⟩:=nP h1;have e:aN (r::l)=cQ r.1 r.2++aN l:=by simp[aN]
  rw[e,Qf,hlen,List.length_cons,Nat.succ_mul];omega
theorem La (c:Prop) [Decidable c] (k v q:List UInt8):aG (if c then[(k,v)]else[]) q=if c∧k=q then some v else none:=by
 by_cases h:c
 ·by_cases hk:k=q<;>simp[aG,h,hk]
 ·simp[aG,h]
theorem DR (m:aq):aG (aO m) (aI 0)=(if 2097151<m.uid then some (aJ m.uid.toNat)else none)∧aG (aO m) (aI 1)=(if 2097151<m.gid then some (aJ m.gid.toNat)else none)∧
 aG (aO m) (aI 2)=(if 8589934591<m.time then some (aJ m.time.toNat)else none)∧aG (aO m) (aI 3)=none∧aG (aO m) (aI 4)=(if ix m=true then some m.path else none)∧
 aG (aO m) (aI 5)=(if gh m=true then some m.target else none):=by
 unfold aO;simp only[mP,La];have f:¬aI 1=aI 0:=by decide
 have L:¬aI 2=aI 0:=by decide
 have T:¬aI 4=aI 0:=by decide
 have Y:¬aI 5=aI 0:=by decide
 have g:¬aI 0=aI 1:=by decide
 have M:¬aI 2=aI 1:=by decide
 have U:¬aI 4=aI 1:=by decide
 have Z:¬aI 5=aI 1:=by decide
 have A:¬aI 0=aI 2:=by decide
 have G:¬aI 1=aI 2:=by decide
 have V:¬aI 4=aI 2:=by decide
 have b:¬aI 5=aI 2:=by decide
 have B:¬aI 0=aI 3:=by decide
 have H:¬aI 1=aI 3:=by decide
 have N:¬aI 2=aI 3:=by decide
 have W:¬aI 4=aI 3:=by decide
 have c:¬aI 5=aI 3:=by decide
 have D:¬aI 0=aI 4:=by decide
 have I:¬aI 1=aI 4:=by decide
 have O:¬aI 2=aI 4:=by decide
 have d:¬aI 5=aI 4:=by decide
 have E:¬aI 0=aI 5:=by decide
 have J:¬aI 1=aI 5:=by decide
 have R:¬aI 2=aI 5:=by decide
 have X:¬aI 4=aI 5:=by decide
 simp only[f,L,T,Y,g,M,U,Z,A,G,V,b,B,H,N,W,c,D,I,O,d,E,J,R,X,and_true,and_false,if_false];refine⟨?_,?_,?_,?_,?_,?_⟩
 ·by_cases h:2097151<m.uid<;>simp[h]
 ·by_cases h:2097151<m.gid<;>simp[h]
 ·by_cases h:8589934591<m.time<;>simp[h]
 ·simp
 ·simp
 ·by_cases h:gh m=true<;>simp[h]
def sJ (F:List UInt8→Option (List UInt8)):Prop:=
 (∀i,1≤i→i<6→(F (aI i)).getD []=[])∧((F (aI 0)).getD []=[]∨∃n,dj ((F (aI 0)).getD [])=some n∧n<2147483648)
theorem GZ:sJ (aG []):=⟨fun i _ _=>rfl,.inl rfl⟩
def vu (F:List UInt8→Option (List UInt8)) (m:aq):Int:=
 if 2097151<m.uid then m.uid else if(F (aI 0)).getD []=[]then m.uid else(((dj ((F (aI 0)).getD [])).getD 0:Nat):Int)
def mF (F:List UInt8→Option (List UInt8)) (m:aq):aq:={m with uid:=vu F m}
theorem Ja (m:aq):mF (aG []) m=m:=by
 have:vu (aG []) m=m.uid:=by
  unfold vu;split
  ·rfl
  ·exact if_pos rfl
 unfold mF;rw[this]
theorem OP {m:aq} (hF:sJ F) (h:dd m):0≤vu F m∧vu F m<2147483648:=by
 unfold vu;have:=h.uid;split
 ·exact this
 ·split
  ·exact this
  ·rename_i h1 A
   obtain⟨n,B,hl⟩:=hF.2.resolve_left A;rw[B];simp only[Option.getD_some];omega
theorem zn {m:aq} (hF:sJ F) (h:dd m):
 cE F (aO m) (bh m)=(⟨m.path,m.target,m.kind,m.mode,vu F m,m.gid,m.time,(m.body.length:Int),false⟩,0):=by
 obtain⟨D,E,G,H,I,J⟩:=DR m;obtain⟨f,f0⟩:=hF;have hu:=h.uid;have O:=h.gid;have R:=h.time
 have L:ef false (dZ F (aO m) (aI 0)) (bh m).uid=some (vu F m):=by
  have e:(bh m).uid=if 2097151<m.uid then 0 else m.uid:=rfl
  unfold dZ vu;rw[D,e]
  by_cases hc:2097151<m.uid
  ·simp only[if_pos hc]
   unfold ef;rw[if_neg (Co _)];simp only[Bool.false_eq_true,if_false];rw[qg (by omega)];simp only[Option.map_some]
   congr 1
   show((m.uid.toNat:Nat):Int)=m.uid;omega
  ·simp only[if_neg hc]
   unfold ef
   by_cases A:(F (aI 0)).getD []=[]
   ·rw[if_pos A,if_pos A]
   ·rw[if_neg A,if_neg A]
    obtain⟨n,B,_⟩:=f0.resolve_left A;simp only[Bool.false_eq_true,if_false];rw[B];rfl
 have M:ef false (dZ F (aO m) (aI 1)) (bh m).gid=some m.gid:=by
  have e:(bh m).gid=if 2097151<m.gid then 0 else m.gid:=rfl
  unfold dZ;rw[E,e]
  by_cases hc:2097151<m.gid
  ·simp only[if_pos hc]
   unfold ef;rw[if_neg (Co _)];simp only[Bool.false_eq_true,if_false];rw[qg (by omega)];simp only[Option.map_some]
   congr 1
   show((m.gid.toNat:Nat):Int)=m.gid;omega
  ·simp only[if_neg hc]
   unfold ef;rw[if_pos (f 1 (by omega) (by omega))]
 have N:ef true (dZ F (aO m) (aI 2)) (bh m).time=some m.time:=by
  have e:(bh m).time=if 8589934591<m.time then 0 else m.time:=rfl
  unfold dZ;rw[G,e]
  by_cases hc:8589934591<m.time
  ·simp only[if_pos hc]
   unfold ef;rw[if_neg (Co _)];simp only[if_true];rw[OK (by omega)];simp only[Option.map_some]
   congr 1
   show((m.time.toNat:Nat):Int)=m.time;omega
  ·simp only[if_neg hc]
   unfold ef;rw[if_pos (f 2 (by omega) (by omega))]
 have n3:ef false (dZ F (aO m) (aI 3)) (bh m).size=some (m.body.length:Int):=by
  unfold dZ;rw[H];unfold ef;rw[if_pos (f 3 (by omega) (by omega))];rfl
 have n4:aE (dZ F (aO m) (aI 4)) (bh m).name=m.path:=by
  have e:(bh m).name=if ix m then bp else m.path:=rfl
  unfold dZ;rw[I,e]
  by_cases hc:ix m=true
  ·simp only[if_pos hc]
   unfold aE;rw[if_neg h.U4]
  ·simp only[if_neg hc]
   unfold aE;rw[if_pos (f 4 (by omega) (by omega))]
 have n5:aE (dZ F (aO m) (aI 5)) (bh m).link=m.target:=by
  have e:(bh m).link=if gh m then bp else m.target:=rfl
  unfold dZ;rw[J,e]
  by_cases hc:gh m=true
  ·simp only[if_pos hc]
   unfold aE;rw[if_neg];intro e;rw[gh,e]at hc;simp[ke]at hc
  ·simp only[if_neg hc]
   unfold aE;rw[if_pos (f 5 (by omega) (by omega))]
 unfold cE fa;simp only[L,M,N,n3,n4,n5];rfl
theorem Ar {m:aq} (h:dd m) {s:RS} (hF:sJ (aG s.cW)) (ho:s.own=aO m) (hn:s.name=none) (hl:s.link=none):
 oV (bh m) s=.ok ({mF (aG s.cW) m with body:=[]},(m.body.length:Int)):=by
 have A:=zn hF h;have e:({bh m with name:=s.name.getD (bh m).name,link:=s.link.getD (bh m).link}:ak)=bh m:=by rw[hn,hl];rfl
 have hu:=OP hF h
 have hm:ey m.mode (vu (aG s.cW) m) m.gid m.time=true:=by
  have h1:=h.mode;have E:=h.gid;have G:=h.time;simp only[ey,decide_eq_true_eq];omega
 unfold oV;simp only[ho,e,A]
 rw[if_neg (by simp),h.path,if_neg (by simp),hm,if_neg (by simp),if_neg (by rintro⟨hk,hd⟩;rw[h.QV hk]at hd;exact hd rfl),if_neg (by rintro⟨hk,hd⟩;exact hd (h.sym hk)),
  if_neg (by rintro⟨hk,hd⟩;rw[h.file hk]at hd;exact hd rfl),if_neg (by have:=h.body;omega)]
 have B:(if m.kind=49 then(bz 9 6 m.target).1 else if m.kind=50 then m.target else[])=m.target:=by
  split
  ·rename_i hk
   rw[h.QV hk]
  ·rename_i hk
   split
   ·rfl
   ·rename_i D
    exact(h.none (by rcases h.kind with e|e|e|e<;>simp_all)).symm
 rw[B];rfl
theorem CK (hr:ba H=(h,0)):aw H 9=eA∨aw H 9=rf:=by
 unfold ba at hr;split at hr
 ·cases (Prod.mk.inj hr).2
 ·split at hr
  ·cases (Prod.mk.inj hr).2
  ·split at hr
   ·cases (Prod.mk.inj hr).2
   ·rename_i _ _ B
    by_cases h1:aw H 9=eA
    ·exact .inl h1
    ·by_cases A:aw H 9=rf
     ·exact .inr A
     ·exact absurd ⟨h1,A⟩ B
theorem xS (hr:ba H=(h,0)):dy H=false:=by
 cases A:dy H with
 |false=>rfl
 |true=>
  have hm:(117:UInt8)∈aw H 9∨(117:UInt8)∈aw H 9:=by
   rcases CK hr with e|e<;>rw[e]<;>simp[eA,rf]
  have hm:(117:UInt8)∈H:=List.mem_of_mem_drop (List.mem_of_mem_take (hm.elim id id));rw[dy,List.all_eq_true]at A;exact absurd (A 117 hm) (by decide)
theorem uo (hL:512≤L.length) (hH:L.take 512=H) (hr:ba H=(h,0)) (s:RS):dK L s=if oL h.kind then ja L h s else oU L h s:=by
 unfold dK;rw[if_neg (by omega),hH,xS hr,if_neg (by simp),hr,if_neg (by simp)]
theorem xj {X:List UInt8} (hH:H.length=512):(H++X).take 512=H:=by rw[←hH,List.take_left'];rfl
theorem R4 (hH:H.length=512) (hr:ba H=(h,0)) (hk:h.kind=120) (hz:h.size=(body.length:Int)) (hb:body.length≤1048576) {rs:ca} (iI:cI 5 9 body=(rs,0)) (rest:List UInt8) (s:RS) (hx:s.eD=false):
 dK (H++(kr body++rest)) s=.next (512+aV body.length) {s with eD:=true,own:=rs}:=by
 rw[uo (by rw[Qf];omega) (xj hH) hr,hk,if_pos (by decide),ja,hk,if_neg (by simp[hx]),hz,if_neg (by omega),vK H body rest hH (by omega)];simp only[iI];rfl
theorem YW {k:UInt8} (h:k=48∨k=49∨k=50∨k=53):oL k=false∧¬(k≠48∧k≠49∧k≠50∧k≠53):=by
 rcases h with e|e|e|e<;>rw[e]<;>exact⟨by decide,by decide⟩
theorem R0 (hH:H.length=512) (hr:ba H=(h,0)) (hk:h.kind=48∨h.kind=49∨h.kind=50∨h.kind=53) {m:aq} {s:RS} (hm:oV h s=.ok (m,(body.length:Int))) (hb:body.length≤1048576) (rest:List UInt8) (ho:s.out.length<4096):
 dK (H++(kr body++rest)) s=.next (512+aV body.length) {s with out:=s.out++[{m with body:=body}],own:=[],name:=none,link:=none,eD:=false}:=by
 obtain⟨A,B⟩:=YW hk;rw[uo (by rw[Qf];omega) (xj hH) hr,A,if_neg (by simp),oU,if_neg (by omega),if_neg B,hm];simp only;rw[vK H body rest hH (by omega)]
theorem xg (h:L.length<512) (s:RS):dK L s=.fault 2:=by
 unfold dK;rw[if_pos h]
structure BA (s:RS):Prop where
 own:s.own=[]
 name:s.name=none
 link:s.link=none
 eD:s.eD=false
theorem uj:BA gI:=⟨rfl,rfl,rfl,rfl⟩
def lY (s:RS) (ms:List aq):RS:={s with out:=s.out++ms}
theorem tF {s:RS} (h:BA s) (ms:List aq):BA (lY s ms):=⟨h.own,h.name,h.link,h.eD⟩
theorem sv {s:RS} (h:BA s) (ms:List aq):({s with out:=s.out++ms,own:=[],name:=none,link:=none,eD:=false}:RS)=lY s ms:=by
 obtain⟨h1,A,B,D⟩:=h
 cases s
 simp only at h1 A B D;subst h1;subst A;subst B;subst D;rfl
theorem Eb (F:List UInt8→Option (List UInt8)) (m:aq):({({mF F m with body:=[]}:aq)with body:=m.body}:aq)=mF F m:=rfl
theorem wC {l:ca} (hm:∀r∈l,gz r.1 r.2=true) (h:aN l=[]):l=[]:=by
 have h1:=nx hm;rw[h]at h1;have A:cI 5 9 []=([],0):=rfl;rw[A]at h1;exact(Prod.mk.inj h1).1.symm
theorem km {m:aq} (h:dd m):(aN (aO m)).length≤1048576:=by
 have h1:=gF h
 have B:(aO m).length≤5:=by
  have d:∀(c:Prop) [Decidable c] (k v:List UInt8),(if c then[(k,v)]else[]).length≤1:=fun c _ k v=>by split<;>simp
  simp only[aO,Qf];have d1:=d (ix m=true) (aI 4) m.path;have d2:=d (gh m=true) (aI 5) m.target;have d3:=d (2097151<m.uid) (aI 0) (aJ m.uid.toNat);have d4:=d (2097151<m.gid) (aI 1) (aJ m.gid.toNat);have d5:=d (8589934591<m.time) (aI 2) (aJ m.time.toNat);omega
 have D:=tv (n:=100000) fun r A=>⟨h1 r A,(ko (h1 r A)).2.2.2.2⟩
 have E:(aO m).length*(100000+10)≤5*(100000+10):=Nat.mul_le_mul_right _ B;omega
theorem kt {m:aq} (h:dd m):∃H,fi (bh m)=some H∧H.length=512∧ba H=(bh m,0)∧
 ((aO m=[]∧fY m=H++kr m.body)∨∃X,fi (yy (aN (aO m)).length)=some X∧X.length=512∧ba X=(yy (aN (aO m)).length,0)∧fY m=X++kr (aN (aO m))++(H++kr m.body)):=by
 obtain⟨H,h1,B,D⟩:=vV h;refine⟨H,h1,B,D,?_⟩
 by_cases hl:aN (aO m)=[]
 ·refine .inl ⟨wC (gF h) hl,?_⟩
  rw[fY,if_pos hl,h1];rfl
 ·obtain⟨X,A,E,G⟩:=AG (km h)
  refine .inr ⟨X,A,E,G,?_⟩;rw[fY,if_neg hl,h1,A];rfl
theorem wS {m:aq} (h:dd m) (hH:H.length=512) (hr:ba H=(bh m,0)) {s:RS} (hF:sJ (aG s.cW)) (ho:s.own=aO m) (hn:s.name=none) (hl:s.link=none) (hs:s.out.length<4096) (rest:List UInt8) (at_:Nat):
 bJ (H++(kr m.body++rest)) at_ s=bJ rest (at_+(512+aV m.body.length)) {s with out:=s.out++[mF (aG s.cW) m],own:=[],name:=none,link:=none,eD:=false}:=by
 rw[fj (R0 hH hr h.kind (Ar h hF ho hn hl) h.body rest hs),zB H m.body rest hH,Eb]
theorem LU {m:aq} (h:dd m) {s:RS} (hs:BA s) (hF:sJ (aG s.cW)) (ho:s.out.length<4096) (rest:List UInt8) (at_:Nat):
 bJ (fY m++rest) at_ s=bJ rest (at_+(fY m).length) (lY s [mF (aG s.cW) m]):=by
 obtain⟨H,_,A,B,hl⟩:=kt h;rcases hl with⟨hr,e⟩|⟨X,_,x2,x3,e⟩
 ·have hlen:(fY m).length=512+aV m.body.length:=by rw[e,Qf,A,bE]
  rw[hlen,e,List.append_assoc,wS h A B hF (by rw[hs.own,hr]) hs.name hs.link ho,sv hs]
 ·have hlen:(fY m).length=512+aV (aN (aO m)).length+(512+aV m.body.length):=by
   rw[e,Qf,Qf,Qf,A,x2,bE,bE]
  rw[hlen,e,List.append_assoc,List.append_assoc,fj (R4 x2 x3 rfl rfl (km h) (nx (gF h)) _ s hs.eD),zB X _ _ x2,List.append_assoc,
   wS (s:={s with eD:=true,own:=aO m}) h A B hF rfl hs.name hs.link ho,Nat.add_assoc]
  congr 1
  exact sv hs _
def cA (ms:List aq):List UInt8:=(ms.map fY).flatten
theorem fS (m:aq) (ms:List aq):cA (m::ms)=fY m++cA ms:=by simp[cA]
theorem AJ (a b:List aq):cA (a++b)=cA a++cA b:=by simp[cA]
theorem lH (ms:List aq):vF ms=cA ms++List.replicate 1024 0:=rfl
theorem Dq (s:RS) (a b:List aq):lY (lY s a) b=lY s (a++b):=by simp[lY]
theorem tG (s:RS) (a:List aq):(lY s a).cW=s.cW:=rfl
theorem wF (s:RS) (a:List aq):(lY s a).out=s.out++a:=rfl
theorem AR:∀(ms:List aq) {s:RS} (hs:BA s) (hF:sJ (aG s.cW)) (h:∀m∈ms,dd m) (ho:s.out.length+ms.length≤4096) (rest:List UInt8) (at_:Nat),
 bJ (cA ms++rest) at_ s=bJ rest (at_+(cA ms).length) (lY s (ms.map (mF (aG s.cW))))
 |[],s,hs,hF,h,ho,rest,at_=>by simp[cA,lY]
 |m::ms,s,hs,hF,h,ho,rest,at_=>by
  have hl:s.out.length+(ms.length+1)≤4096:=ho
  rw[fS,List.append_assoc,LU (h m (List.mem_cons_self ..)) hs hF (by omega),
   AR ms (tF hs _) (by rw[tG];exact hF) (fun x A=>h x (List.mem_cons_of_mem _ A)) (by rw[wF,Qf];simp only[List.length_cons,List.length_nil];omega),
   Dq,tG,Qf,Nat.add_assoc]
  rfl
theorem q9 (n:Nat):dy (List.replicate n 0)=true:=by
 rw[dy,List.all_eq_true];intro x A;rw[(List.mem_replicate.1 A).2];rfl
theorem QB {s:RS} (hs:BA s) (n:Nat) (hn:1024≤n) (at_:Nat):bJ (List.replicate n 0) at_ s=(s.out,0,0):=by
 refine gM ?_ at_;unfold dK
 rw[if_neg (by rw[List.length_replicate];omega),List.take_replicate,q9,if_pos rfl,if_neg (by rw[List.length_replicate];omega),List.drop_replicate,q9,if_neg (by simp),
  if_neg (by rw[hs.eD,hs.name,hs.link];simp)]
theorem uX (ms:List aq):ms.map (mF (aG []))=ms:=by
 have:mF (aG [])=id:=funext Ja;rw[this,List.map_id]
theorem wR {ms:List aq} (h:∀m∈ms,dd m) (hl:ms.length≤4096) (n:Nat):cG (vF ms++List.replicate n 0)=(ms,0,0):=by
 rw[cG,lH,List.append_assoc,List.replicate_append_replicate,AR ms uj GZ h (by show 0+ms.length≤4096;omega),QB (tF uj _) _ (by omega),wF];show([]++ms.map (mF (aG [])),(0:Int),0)=_;rw[uX,List.nil_append]
theorem zm (h0:(fa V h).2=0):(fa V h).1.kind=h.kind:=by
 unfold fa at h0⊢;split
 ·rfl
 ·rename_i G
  exfalso;split at h0
  ·rename_i u g t s A B D E
   exact G u g t s A B D E
  ·simp at h0
theorem Dm {s:RS} {m:aq} (hm:oV h s=.ok (m,n)) (hk:¬(h.kind≠48∧h.kind≠49∧h.kind≠50∧h.kind≠53)) (ht:t.length≤n.toNat):bD {m with body:=t}=true:=by
 unfold oV at hm;simp only at hm;generalize T:cE (aG s.cW) s.own {h with name:=s.name.getD h.name,link:=s.link.getD h.link}=a at hm;split at hm
 ·cases hm
 rename_i E;have E:a.2=0:=Decidable.of_not_not E
 have L:a.1.kind=h.kind:=by
  rw[←T]at E⊢;exact zm E
 split at hm
 ·cases hm
 rename_i hc;have hc:bz 9 6 a.1.name=((bz 9 6 a.1.name).1,0):=Prod.ext rfl (Decidable.of_not_not hc);split at hm
 ·cases hm
 rename_i N;split at hm
 ·cases hm
 rename_i hd;split at hm
 ·cases hm
 rename_i H;split at hm
 ·cases hm
 rename_i hf;split at hm
 ·cases hm
 rename_i hs
 cases hm
 have c1:=(nK 9 6 (by omega) (by omega) _ _ hc).1
 have k:a.1.kind=48∨a.1.kind=49∨a.1.kind=50∨a.1.kind=53:=by
  rw[L]
  by_cases A:h.kind=48
  ·exact .inl A
  by_cases B:h.kind=49
  ·exact .inr (.inl B)
  by_cases D:h.kind=50
  ·exact .inr (.inr (.inl D))
  by_cases I:h.kind=53
  ·exact .inr (.inr (.inr I))
  exact absurd ⟨A,B,D,I⟩ hk
 have G:ey a.1.mode a.1.uid a.1.gid a.1.time=true:=by simpa using N
 have M:a.1.kind=48∨t=[]:=by
  by_cases A:a.1.kind=48
  ·exact .inl A
  ·refine .inr (List.length_eq_zero_iff.1 ?_)
   have:a.1.size=0:=Decidable.of_not_not fun e=>hf ⟨A,e⟩
   rw[this]at ht
   simpa using ht
 have hlen:t.length≤1048576:=by omega
 have O:dn (bz 9 6 a.1.name).1=true:=by rw[dn,c1];simp
 have R:(a.1.kind==48||t==[])=true:=by rcases M with e|e<;>simp[e]
 simp only[bD,O,G,hlen,decide_true,R,Bool.true_and]
 by_cases A:a.1.kind=48∨a.1.kind=53
 ·rw[if_pos A,if_neg (by rcases A with e|e<;>rw[e]<;>decide),if_neg (by rcases A with e|e<;>rw[e]<;>decide)]
  rfl
 ·rw[if_neg A]
  by_cases B:a.1.kind=49
  ·have J:bz 9 6 a.1.link=((bz 9 6 a.1.link).1,0):=Prod.ext rfl (Decidable.of_not_not fun e=>hd ⟨B,e⟩)
   rw[if_pos B,if_pos B,dn,(nK 9 6 (by omega) (by omega) _ _ J).1];simp
  ·have D:a.1.kind=50:=by
    rcases k with e|e|e|e
    ·exact absurd (.inl e) A
    ·exact absurd e B
    ·exact e
    ·exact absurd (.inr e) A
   rw[if_neg B,if_neg B,if_pos D,if_pos D];exact decide_eq_true (Decidable.of_not_not fun e=>H ⟨D,e⟩)
theorem um {s:RS} (h:dK l s=.fault e):e≠0:=by
 unfold dK at h;split at h
 ·cases h;omega
 split at h
 ·split at h
  ·cases h;omega
  split at h
  ·cases h;omega
  split at h
  ·cases h;omega
  ·cases h
 split at h
 ·rename_i A
  cases h;exact A
 split at h
 ·unfold ja at h
  split at h
  ·cases h;omega
  split at h
  ·cases h;omega
  split at h
  ·cases h;omega
  split at h
  ·cases h
  split at h
  ·cases h
  split at h
  ·rename_i A
   cases h;exact A
  split at h<;>cases h
 ·unfold oU at h
  split at h
  ·cases h;omega
  split at h
  ·cases h;omega
  split at h
  ·rename_i B hm
   cases h
   unfold oV at hm;simp only at hm;split at hm
   ·rename_i A;cases hm;exact A
   split at hm
   ·rename_i A;cases hm;exact A
   split at hm
   ·cases hm;omega
   split at hm
   ·rename_i A;cases hm;exact A.2
   split at hm
   ·rename_i A;cases hm;exact A.2
   split at hm
   ·cases hm;omega
   split at hm
   ·cases hm;omega
   ·cases hm
  split at h
  ·cases h;omega
  ·cases h
theorem kG (n:Nat):aV n % 512=0:=Nat.mul_mod_left _ _
theorem D3 {s s':RS} (h:dK l s=.next k s') (hg:∀m∈s.out,bD m=true):k % 512=0∧∀m∈s'.out,bD m=true:=by
 unfold dK at h;split at h
 ·cases h
 split at h
 ·split at h
  ·cases h
  split at h
  ·cases h
  split at h<;>cases h
 split at h
 ·cases h
 split at h
 ·unfold ja at h
  split at h
  ·cases h
  split at h
  ·cases h
  split at h
  ·cases h
  rename_i t k' A;have hk:=(kH A).1;have A:=kG (ba (l.take 512)).1.size.toNat;split at h
  ·cases h;exact⟨by omega,hg⟩
  split at h
  ·cases h;exact⟨by omega,hg⟩
  split at h
  ·cases h
  split at h<;>(cases h;exact⟨by omega,hg⟩)
 ·unfold oU at h
  split at h
  ·cases h
  split at h
  ·cases h
  rename_i B;split at h
  ·cases h
  rename_i m n hm;split at h
  ·cases h
  rename_i t k' A;obtain⟨hk,_,D,_⟩:=kH A;have A:=kG n.toNat
  cases h
  refine⟨by omega,fun x hx=>?_⟩;rcases List.mem_append.1 hx with hx|hx
  ·exact hg x hx
  ·rw[List.mem_singleton.1 hx]
   exact Dm hm B (by rw[D,Qg];omega)
theorem DL (N:Nat):∀(l:List UInt8) (at_:Nat) (s:RS),l.length≤N→at_ % 512=0→(∀m∈s.out,bD m=true)→∀ms e a,bJ l at_ s=(ms,e,a)→
 (e≠0∧ms=[]∧a≤at_+l.length∧a % 512=0)∨(e=0∧a=0∧∀m∈ms,bD m=true):=by
 induction N with
 |zero=>
  intro l at_ s hl A B ms e a h;rw[eL (xg (by omega) s)]at h
  cases h
  exact .inl ⟨by omega,rfl,by omega,A⟩
 |succ N ih=>
  intro l at_ s hl A B ms e a h
  cases hs:dK l s with
  |fault f=>
   rw[eL hs]at h
   cases h
   exact .inl ⟨um hs,rfl,by omega,A⟩
  |done=>
   rw[gM hs]at h
   cases h
   exact .inr ⟨rfl,rfl,B⟩
  |next k I=>
   rw[fj hs]at h;obtain⟨E,G⟩:=kB hs;obtain⟨H,D⟩:=D3 hs B;rcases ih _ _ _ (by rw[Qe];omega) (by omega) D _ _ _ h with⟨r1,r2,r3,r4⟩|r
   ·rw[Qe]at r3
    exact .inl ⟨r1,r2,by omega,r4⟩
   ·exact .inr r
theorem tC {ms:List aq} {a:Nat} (h:cG b=(ms,e,a)):(e≠0∧ms=[]∧a≤b.length∧a % 512=0)∨(e=0∧a=0∧∀m∈ms,bD m=true):=by
 have:=DL b.length b 0 gI (Qk _) rfl (fun m hm=>by cases hm) ms e a h
 rwa [Nat.zero_add]at this
theorem AX {R T:Int} {k:List UInt8} {m:Nat} (h:dA R T l=.ok (k,v,m)):k.length+v.length≤l.length:=by
 unfold dA at h;split at h
 ·cases h
 ·split at h
  ·cases h
  ·dsimp only at h
   split at h
   ·cases h
   ·split at h
    ·cases h
    ·cases h
     simp only[Qg,Qe];omega
theorem DQ (R T:Int) (L:Nat):∀(n:Nat) (l:List UInt8) (acc:ca),l.length≤L→(∀r∈acc,r.1.length+r.2.length≤L)→acc.length+l.length≤L→(∀r∈(gE R T n l acc).1,r.1.length+r.2.length≤L)∧(gE R T n l acc).1.length≤L:=by
 intro n
 induction n with
 |zero=>intro l acc h1 A B;exact⟨A,by simp only[gE];omega⟩
 |succ n ih=>
  intro l acc h1 A B;rw[gE]
  by_cases hl:l=[]
  ·rw[if_pos hl];exact⟨A,by simp only;omega⟩
  ·rw[if_neg hl]
   cases hs:dA R T l with
   |error e=>exact⟨fun r hr=>by simp at hr,by simp⟩
   |ok x=>
    obtain⟨k,v,m⟩:=x;have D:=mj hs;have E:=AX hs;refine ih _ _ (by rw[Qe];omega) (fun r hr=>?_) (by rw[Qe,Qf,List.length_singleton];omega);rcases List.mem_append.1 hr with hr|hr
    ·exact A r hr
    ·rw[List.mem_singleton]at hr
     subst hr;show k.length+v.length≤L;omega
theorem p9 (R T:Int) (l:List UInt8):(∀r∈(cI R T l).1,r.1.length+r.2.length≤l.length)∧(cI R T l).1.length≤l.length:=
 DQ R T l.length l.length l [] (Qk _) (fun r A=>by simp at A) (by simp)
theorem nX (l:List UInt8):(aF l).length≤l.length:=(List.takeWhile_sublist _).length_le
theorem OT (bs:List UInt8) (i:Nat):0≤dM bs i:=by
 unfold dM
 cases h:bk (aw bs i)with
 |none=>exact Int.le_refl _
 |some r=>exact(Im h).1
theorem pL (bs:List UInt8) (i:Nat):(aw bs i).length≤aj i:=by
 unfold aw;rw[Qg];omega
theorem lO (bs:List UInt8):0≤(ba bs).1.size∧(ba bs).1.name.length≤1000∧(ba bs).1.link.length≤1000:=by
 unfold ba;split
 ·exact⟨by decide,by decide,by decide⟩
 ·split
  ·exact⟨by decide,by decide,by decide⟩
  ·split
   ·exact⟨by decide,by decide,by decide⟩
   ·split
    ·refine⟨OT bs 4,?_,?_⟩
     ·show(kq _ _ _).length≤1000
      have h1:=nX (aw bs 10);have D:=nX (aw bs 0);have A:=pL bs 10;have E:=pL bs 0;have B:aj 10≤400:=by decide
      have G:aj 0≤400:=by decide
      unfold kq;split
      ·omega
      ·simp only[Qf,List.length_cons];omega
     ·show(aF _).length≤1000
      have h1:=nX (aw bs 8);have A:=pL bs 8;have B:aj 8≤400:=by decide
      omega
    ·exact⟨by decide,by decide,by decide⟩
theorem Gq (L:Nat) (hV:∀i,i<6→(V i).length≤L) (h0:0≤h.size) (h1:h.name.length≤L) (h2:h.link.length≤L):0≤(fa V h).1.size∧(fa V h).1.name.length≤L∧(fa V h).1.link.length≤L:=by
 unfold fa;split
 ·rename_i u g t s B D E A
  refine⟨?_,?_,?_⟩
  ·show 0≤s
   unfold ef at A;split at A
   ·cases A;exact h0
   ·simp only[Bool.false_eq_true,if_false]at A
    cases hw:dj (V 3)with
    |none=>rw[hw]at A;cases A
    |some n=>rw[hw]at A;cases A;exact Int.natCast_nonneg n
  ·show(aE (V 4) h.name).length≤L
   unfold aE;split
   ·exact h1
   ·exact hV 4 (by omega)
  ·show(aE (V 5) h.link).length≤L
   unfold aE;split
   ·exact h2
   ·exact hV 5 (by omega)
 ·exact⟨by decide,Nat.zero_le _,Nat.zero_le _⟩
theorem zK {gs own:ca} {L:Nat} (h1:∀r∈gs,r.2.length≤L) (h2:∀r∈own,r.2.length≤L) (k:List UInt8):(dZ (aG gs) own k).length≤L:=by
 unfold dZ
 cases h:aG own k with
 |some v=>
  obtain⟨r,A,_,rfl⟩:=wu h;exact h2 r A
 |none=>
  cases B:aG gs k with
  |some v=>
   obtain⟨r,A,_,rfl⟩:=wu B
   simpa [B]using h1 r A
  |none=>simp
theorem C8 (gs rs:ca):fQ (aG gs) rs=aG (gs++rs):=by rw[←tE,Dn,tE]
theorem Jc:dy l=true↔∀x,x<l.length→l.getD x 0=0:=by
 unfold dy;rw[List.all_eq_true];constructor
 ·intro h x A
  rw[List.getD,Qd A]
  simpa using h _ (List.getElem_mem A)
 ·intro h x A
  obtain⟨i,hi,rfl⟩:=List.getElem_of_mem A;have:=h i hi;rw[List.getD,Qd hi]at this
  simpa using this
theorem AH (hl:l.length=512):(((bq l 512:Nat):Int)==0)=dy l:=by
 rw[Bool.eq_iff_iff,Jc,hl];rw[←pb];simp
def rA:aq:=⟨[],[],0,0,0,0,0,[]⟩
def oG (kind:UInt8) (link:List UInt8):List UInt8 × Int:=if kind=49 then bz 9 6 link else if kind=50 then(link,dc 9 6 link)else([],0)
def pk (kind:UInt8) (n:Int):Int:=if kind≠48∧n≠0 then 4 else if 1048576<n then 10 else 0
def dF (h:ak):aq × Int:=
 if(bz 9 6 h.name).2≠0 then(rA,(bz 9 6 h.name).2)
 else if ey h.mode h.uid h.gid h.time=false then(rA,4)
 else if(oG h.kind h.link).2≠0 then(rA,(oG h.kind h.link).2)
 else if pk h.kind h.size≠0 then(rA,pk h.kind h.size)
 else(⟨(bz 9 6 h.name).1,(oG h.kind h.link).1,h.kind,h.mode,h.uid,h.gid,h.time,[]⟩,0)
def ez (h:ak) (s:RS):ak:={h with name:=s.name.getD h.name,link:=s.link.getD h.link}
theorem Lq (h:ak) (s:RS):oV h s=
 if(cE (aG s.cW) s.own (ez h s)).2≠0 then .error (cE (aG s.cW) s.own (ez h s)).2
 else if(dF (cE (aG s.cW) s.own (ez h s)).1).2≠0 then .error (dF (cE (aG s.cW) s.own (ez h s)).1).2
 else .ok ((dF (cE (aG s.cW) s.own (ez h s)).1).1,(cE (aG s.cW) s.own (ez h s)).1.size):=by
 unfold oV ez
 dsimp only
 generalize cE (aG s.cW) s.own _=a
 by_cases h1:a.2≠0
 ·rw[if_pos h1,if_pos h1]
 ·rw[if_neg h1,if_neg h1]
  unfold dF
  by_cases H:(bz 9 6 a.1.name).2≠0
  ·simp only[if_pos H]
  ·simp only[if_neg H]
   by_cases I:ey a.1.mode a.1.uid a.1.gid a.1.time=false
   ·simp only[if_pos I];rfl
   ·simp only[if_neg I]
    unfold oG pk
    by_cases D:a.1.kind=49
    ·have E:¬a.1.kind=50:=by rw[D];decide
     have G:a.1.kind≠48:=by rw[D];decide
     by_cases B:(bz 9 6 a.1.link).2=0
     ·by_cases A:a.1.size=0
      ·simp[D,B,A]
      ·simp[D,B,A]
     ·simp[D,B]
    ·by_cases E:a.1.kind=50
     ·by_cases B:dc 9 6 a.1.link=0
      ·by_cases A:a.1.size=0
       ·simp[E,B,A]
       ·simp[E,B,A]
      ·simp[E,B]
     ·by_cases G:a.1.kind=48
      ·by_cases J:1048576<a.1.size
       ·simp[G,J]
       ·simp[G,J]
      ·by_cases A:a.1.size=0
       ·simp[D,E,G,A]
       ·simp[D,E,G,A]
def fO (k:UInt8):Bool:=k==48||k==49||k==50||k==53
def kO (m:aq):ak:=⟨m.path,m.target,m.kind,m.mode,m.uid,m.gid,m.time,(m.body.length:Int),false⟩
theorem Kp (m:aq):bD m=(fO m.kind&&decide ((dF (kO m)).2=0)&&decide ((dF (kO m)).1.path=m.path)&&decide ((dF (kO m)).1.target=m.target)):=by
 rw[Bool.eq_iff_iff];unfold bD fO dF kO dn oG pk;simp only[Bool.and_eq_true,Bool.or_eq_true,decide_eq_true_eq,beq_iff_eq];obtain⟨⟨T,ce⟩,hc⟩:∃x,bz 9 6 m.path=x:=⟨_,rfl⟩
 obtain⟨⟨U,N⟩,hd⟩:∃x,bz 9 6 m.target=x:=⟨_,rfl⟩
 rw[hc,hd];have R:((m.body.length:Int)=0)↔m.body=[]:=by rw[←List.length_eq_zero_iff];omega
 have M:(1048576<(m.body.length:Int))↔1048576<m.body.length:=by omega
 have V:m.body=[]→¬1048576<m.body.length:=fun h=>by rw[h];simp
 simp only[Prod.mk.injEq,ne_eq,R,M]
 by_cases h1:ce=0
 ·by_cases J:ey m.mode m.uid m.gid m.time=false
  ·simp[h1,J,rA]
  ·have A:ey m.mode m.uid m.gid m.time=true:=by simpa using J
   by_cases H:m.kind=48
   ·by_cases L:1048576<m.body.length
    ·simp[h1,A,H,L]
     intro _ _;omega
    ·have O:m.body.length≤1048576:=by omega
     simp[h1,A,H,L,O,@eq_comm _ [] m.target]
   ·by_cases E:m.kind=49
    ·by_cases D:N=0
     ·by_cases B:m.body=[]
      ·simp[h1,A,E,D,B]
      ·simp[h1,A,E,D,B]
     ·simp[h1,A,E,D]
    ·by_cases G:m.kind=50
     ·by_cases D:dc 9 6 m.target=0
      ·by_cases B:m.body=[]
       ·simp[h1,A,G,D,B]
       ·simp[h1,A,G,D,B]
      ·simp[h1,A,G,D]
     ·by_cases I:m.kind=53
      ·by_cases B:m.body=[]
       ·simp[h1,A,I,B,@eq_comm _ [] m.target]
       ·simp[h1,A,I,B]
      ·simp[H,E,G,I]
 ·simp[h1]
end Mem
namespace Tre
open Mem
variable {a c:List UInt8}
def dx (a b:List UInt8):Bool:=Op.bytesLess a b
theorem yt (b:List UInt8):dx b []=false:=by cases b<;>rfl
theorem tz (a b:UInt8) (x y:List UInt8):dx (a::x) (b::y)=(decide (a<b)||(a==b&&dx x y)):=rfl
theorem ji (a:List UInt8):dx a a=false:=by
 induction a with
 |nil=>rfl
 |cons b l ih=>rw[tz,ih];simp
theorem gy (a:List UInt8):∀b c,dx a b=true→dx b c=true→dx a c=true:=by
 induction a with
 |nil=>intro b c h1 A
       cases c with
       |nil=>rw[yt]at A;cases A
       |cons c z=>rfl
 |cons a x ih=>
  intro b c h1 A
  cases b with
  |nil=>rw[yt]at h1;cases h1
  |cons b y=>
   cases c with
   |nil=>rw[yt]at A;cases A
   |cons c z=>
    rw[tz]at h1 A⊢;simp only[Bool.or_eq_true,decide_eq_true_eq,Bool.and_eq_true,beq_iff_eq]at h1 A⊢;rcases h1 with h1|⟨rfl,h1⟩
    ·rcases A with A|⟨rfl,A⟩
     ·exact .inl (UInt8.lt_trans h1 A)
     ·exact .inl h1
    ·rcases A with A|⟨rfl,A⟩
     ·exact .inl A
     ·exact .inr ⟨rfl,ih y z h1 A⟩
theorem Ff (a:List UInt8):∀b,dx a b=false→dx b a=false→a=b:=by
 induction a with
 |nil=>
  intro b h1 A
  cases b with
  |nil=>rfl
  |cons b y=>exact absurd h1 (by simp[dx,Op.bytesLess])
 |cons a x ih=>
  intro b h1 A
  cases b with
  |nil=>exact absurd A (by simp[dx,Op.bytesLess])
  |cons b y=>
   rw[tz]at h1 A;simp only[Bool.or_eq_false_iff,decide_eq_false_iff_not]at h1 A
   have B:a=b:=by
    apply UInt8.le_antisymm
    ·exact UInt8.not_lt.1 A.1
    ·exact UInt8.not_lt.1 h1.1
   subst B;have D:dx x y=false:=by simpa using h1.2
   have E:dx y x=false:=by simpa using A.2
   rw[ih y D E]
theorem oS (h:dx a b=true):dx b a=false:=by
 cases A:dx b a with
 |false=>rfl
 |true=>have:=gy a b a h A;rw[ji]at this;cases this
theorem nQ (h:dx a b=true):a≠b:=fun e=>by subst e;rw[ji]at h;cases h
theorem kS (h:dx a b=false) (cX:a≠b):dx b a=true:=by
 cases A:dx b a with
 |true=>rfl
 |false=>exact absurd (Ff a b h A) cX
theorem yr (h:dx b a=false) (h2:dx b c=true):dx a c=true:=by
 by_cases e:a=b
 ·rw[e];exact h2
 ·exact gy a b c (kS h (fun x=>e x.symm)) h2
theorem yu (h:dx a b=true) (h2:dx c b=false):dx a c=true:=by
 by_cases e:b=c
 ·rw[←e];exact h
 ·exact gy a b c h (kS h2 (fun x=>e x.symm))
structure ay where
 path:List UInt8
 target:List UInt8
 af:List UInt8
 kind:UInt8
 mode:Int
 uid:Int
 gid:Int
 time:Int
 body:List UInt8
deriving instance DecidableEq for ay
def bU:ay:=⟨[],[],[],0,0,0,0,0,[]⟩
def ay.mem (x:ay):aq:=⟨x.path,x.target,x.kind,x.mode,x.uid,x.gid,x.time,x.body⟩
theorem Ol {a b:ay} (h:a.mem=b.mem) (hl:a.af=b.af):a=b:=by
 cases a;cases b
 simp only[ay.mem,aq.mk.injEq]at h
 simp_all
def gV (p:List UInt8) (m:aq) (l:List UInt8):ay:=⟨p,m.target,l,m.kind,m.mode,m.uid,m.gid,m.time,m.body⟩
def bB:aq:=⟨[],[],0,0,0,0,0,[]⟩
abbrev St:=List (List UInt8 × Nat)
def look (S:St) (p:List UInt8):Option Nat:=(S.find? fun e=>e.1==p).map (·.2)
def jr (S:St) (p:List UInt8) (n:Nat):St:=S.filter (fun e=>!(e.1==p))++[(p,n)]
def jY (ms:List aq) (S:St) (i:Nat):Option St:=
 let m:=ms.getD i bB
 if m.kind=49 then
  match look S m.target with
  |none=>none
  |some n=>if(ms.getD n bB).kind=48 then some (jr S m.path n)else none
 else some (jr S m.path i)
def eH (ms:List aq):Nat→Except Nat St
 |0=>.ok []
 |k+1=>match eH ms k with
  |.error i=>.error i
  |.ok S=>match jY ms S k with
   |none=>.error k
   |some S'=>.ok S'
def np (T:St) (n:Nat):List UInt8:=((T.find? fun e=>e.2==n).map (·.1)).getD []
def qN (ms:List aq) (T:St) (e:List UInt8 × Nat):ay:=
 gV e.1 (ms.getD e.2 bB) (if(ms.getD e.2 bB).kind=48 then np T e.2 else[])
def Lh (a b:List UInt8 × Nat):Bool:=!dx b.1 a.1
def lf (S:St):St:=S.mergeSort Lh
def mC (ms:List aq) (S:St):List ay:=(lf S).map (qN ms (lf S))
def gR (ms:List aq):List ay × Int × Nat:=
 match ms.findIdx? (fun m=>!bD m)with
 |some i=>([],1,i)
 |none=>match eH ms ms.length with
  |.error i=>([],7,i)
  |.ok S=>(mC ms S,0,0)
def dD (t:List ay) (p:List UInt8):Option ay:=t.find? fun x=>x.path==p
def Dg (o:Option ay) (x:ay):Bool:=
 match o with
 |none=>false
 |some y=>decide (y.kind=48)&&(decide (y.af=y.path)&&(decide (y.mode=x.mode∧y.uid=x.uid∧y.gid=x.gid∧y.time=x.time)&&decide (y.body=x.body)))
def iJ (t:List ay) (x:ay):Bool:=
 if x.kind=48 then Dg (dD t x.af) x else decide (x.af=[])
def eN (x:ay):Bool:=decide (x.kind≠49)&&bD x.mem
def et (t:List ay) (i:Nat):Bool:=
 let x:=t.getD i bU
 (eN x&&(decide (i=0)||dx (t.getD (i - 1) bU).path x.path))&&iJ (t.take (i+1)) x
def bG (t:List ay):Bool:=decide (t.length≤4096)&&(List.range t.length).all (et t)
def eZ (t:List ay):Prop:=t.Pairwise fun a b=>dx a.path b.path=true
end Tre
namespace Mem
open Go.Lib Fp Hp Path Rec Attr
variable {m:aq}
theorem LL (h:dd m):(fY m).length % 512=0∧512+aV m.body.length≤(fY m).length:=by
 have D:=kG m.body.length;have hl:=kG (aN (aO m)).length;obtain⟨H,_,A,_,(⟨_,e⟩|⟨X,_,B,_,e⟩)⟩:=kt h
 ·rw[e,Qf,bE,A];omega
 ·rw[e,Qf,Qf,Qf,bE,bE,A,B];omega
theorem Iy (h:dd m):∃H,fi (bh m)=some H∧H.length=512∧
 ((aO m=[]∧fY m=H++kr m.body)∨(aO m≠[]∧∃X,fi (yy (aN (aO m)).length)=some X∧X.length=512∧fY m=X++kr (aN (aO m))++(H++kr m.body))):=by
 obtain⟨H,h1,D,_⟩:=vV h;refine⟨H,h1,D,?_⟩
 by_cases A:aO m=[]
 ·refine .inl ⟨A,?_⟩
  rw[fY,A,if_pos (show aN []=[]from rfl),h1];rfl
 ·obtain⟨X,B,E,_⟩:=AG (km h)
  refine .inr ⟨A,X,B,E,?_⟩;rw[fY,if_neg (fun e=>A (wC (gF h) e)),h1,B];rfl
def DF (m:aq):Bool:=
 decide (m.path.length≤100)&&(decide (m.target.length≤100)&&(decide (m.uid≤2097151)&&(decide (m.gid≤2097151)&&(decide (m.time≤8589934591)&&(ke m.path&&ke m.target)))))
theorem DG (h:DF m=true):aO m=[]:=by
 unfold DF at h;simp only[Bool.and_eq_true,decide_eq_true_eq]at h;obtain⟨h1,E,I,J,L,G,H⟩:=h;have B:ix m=false:=by unfold ix;rw[nM h1,G];rfl
 have D:gh m=false:=by
  unfold gh;rw[H]
  simpa using E
 unfold aO;rw[B,D];have A:¬2097151<m.uid:=by omega
 have a2:¬2097151<m.gid:=by omega
 have a3:¬8589934591<m.time:=by omega
 simp[A,a2,a3]
theorem DI (h:dd m) (hp:DF m=true):(fY m).length=512+aV m.body.length:=by
 have B:=DG hp;obtain⟨H,_,A,_,_⟩:=kt h
 have e:fY m=(fi (bh m)).getD []++kr m.body:=by
  unfold fY;rw[B,if_pos (show aN []=[]from rfl),List.nil_append]
 obtain⟨H,h1,A,_,_⟩:=kt h;rw[e,h1,Qf,bE];show H.length+_=_;rw[A]
theorem IW {s s':RS} (h:dK l s=.next k s') (hg:s.out.length≤4096):s'.out.length≤4096:=by
 unfold dK at h;split at h
 ·cases h
 ·split at h
  ·split at h
   ·cases h
   ·split at h
    ·cases h
    ·split at h<;>cases h
  ·split at h
   ·cases h
   ·split at h
    ·unfold ja at h
     split at h
     ·cases h
     ·split at h
      ·cases h
      ·split at h
       ·cases h
       ·split at h
        ·cases h;exact hg
        ·split at h
         ·cases h;exact hg
         ·split at h
          ·cases h
          ·split at h<;>(cases h;exact hg)
    ·unfold oU at h
     split at h
     ·cases h
     ·split at h
      ·cases h
      ·split at h
       ·cases h
       ·split at h
        ·cases h
        ·cases h
         simp only[Qf,List.length_singleton];omega
theorem IA (N:Nat):∀(l:List UInt8) (at_:Nat) (s:RS),l.length≤N→s.out.length≤4096→(bJ l at_ s).1.length≤4096:=by
 induction N with
 |zero=>
  intro l at_ s hl A;rw[eL (xg (by omega) s)];simp
 |succ N ih=>
  intro l at_ s hl A
  cases hs:dK l s with
  |fault f=>rw[eL hs];simp
  |done=>rw[gM hs];exact A
  |next k E=>
   rw[fj hs];obtain⟨B,D⟩:=kB hs;exact ih _ _ _ (by rw[Qe];omega) (IW hs A)
theorem uY (b:List UInt8):(cG b).1.length≤4096:=IA b.length b 0 gI (Qk _) (by show(0:Nat)≤4096;omega)
end Mem
namespace Rec
open Go.ChangeShapes Go.WideShapes Go.ChangeAt Go.RowKit Go.Shelf Base bM cr Path Go.Lib
variable {w w':World}
def Need (w:World):Prop:=Path.Tabs w∧(∃tp p,w.var? Tryz.prog "strconv.ErrSyntax"=some #[.iface tp p])∧Lib.TabIs Tryz.prog w "internal/strconv.uint64pow10" .u64 Lib.pow10Tab
theorem xo {P:Program} {n:String} {cs:Array Value} (h:w.var? P n=some cs) (hb:Below w.heap.size w w'):w'.var? P n=some cs:=by
 unfold World.var? at h⊢
 cases A:P.globalNamed n with
 |none=>simp[A]at h
 |some g=>
  simp only[A,Option.bind_some]at h⊢
  have B:g<w.heap.size:=by
   rcases Nat.lt_or_ge g w.heap.size with h'|h'
   ·exact h'
   ·simp[Array.getElem?_eq_none h']at h
  rw[hb.block g B];exact h
theorem Need.below (h:Need w) (hb:Below w.heap.size w w'):Need w':=
 ⟨h.1.below hb,by obtain⟨B,p,A⟩:=h.2.1;exact⟨B,p,xo A hb⟩,xo h.2.2 hb⟩
theorem Need.yL (h:Need w):Path.Tabs w:=h.1
end Rec
namespace Wr
open Go.ChangeShapes Go.WideShapes Go.ChangeAt Go.RowKit Base bM cr Mem Go.Lib
theorem Vn (s:ByteArray) (k:Nat) (hk:k<s.size):s[k]=s.data.toList.getD k 0:=by
 have h:k<s.data.toList.length:=by simpa using hk
 rw[List.getD,Qd h];rfl
theorem Iu (s:ByteArray) (w:World) (hm:s.size≤140737488351232):
 Calls Tryz.prog 122 #[.string s] w fun e w'=>e=.returned (.bool (ke s.data.toList))∧Below w.heap.size w w':=by
 have M:Hid (s.data.toList.length=s.size):=Qh (by simp);have I:Hid (∀pos,Below w.heap.size w (w.iter s pos)):=Qh (fun pos=>(Below.refl _ _).alloc (Qk _) _)
 go_enter Tryz.func122,Tryz.ntmps122
 go_wp2
 go_loopw [2] (fun r wr=>r=.bool false∧∃(pos:Nat),wr=w.iter s pos∧pos≤s.size∧Hid (∀x∈s.data.toList.take pos,x.toNat≤127)) (fun _ wr=>s.size - wr.iterPos w.heap.size)
 case atStart=>exact⟨rfl,0,rfl,Nat.zero_le _,Qh (by simp)⟩
 case round=>
  obtain⟨rfl,pos,rfl,V,L⟩:=hrel
  by_cases A:pos<s.size
  ·have B:pos<s.data.toList.length:=by rw[M.out];exact A
   have J:Hid ((s[pos]).toNat=(s.data.toList.getD pos 0).toNat):=Qh (by rw[Vn s pos A])
   have O:Hid (s.data.toList.take (pos+1)=s.data.toList.take pos++[s.data.toList.getD pos 0]):=Qh (by
    rw[List.take_succ_eq_append_getElem B,List.getD,Qd B];rfl)
   have N:Hid (s.data.toList.getD pos 0∈s.data.toList):=Qh (by
    rw[List.getD,Qd B];exact List.getElem_mem B)
   by_cases H:(s[pos]).toNat<128
   ·have D:=fun ty=>run_next_ascii (P:=Tryz.prog) w s pos ty A H
    have R:¬(127:Int)<((s[pos]).toNat:Int):=by omega
    go_wp2;go_roundw
    case rel=>exact⟨rfl,pos+1,rfl,by omega,Qh (fun y hy=>by
     rw[O.out,List.mem_append]at hy;rcases hy with hy|hy
     ·exact L.out y hy
     ·simp only[List.mem_singleton]at hy
      subst hy;have T:=J.out
      omega)⟩
    case measure=>simp;omega
   ·have D:=fun ty=>run_next_any (P:=Tryz.prog) w s pos ty A
    have hd:=decode_high s pos A (by omega);obtain⟨r,k,G⟩:∃r k,Utf8.decode s pos=(r,k):=⟨_,_,rfl⟩
    rw[G]at hd;simp only[G]at D;obtain⟨U,_⟩:=hd;have R:(127:Int)<(r:Int):=by omega
    have E:Hid (ke s.data.toList=false):=Qh (by
     unfold ke;rw[Bool.eq_false_iff];intro h;have:=of_decide_eq_true (List.all_eq_true.1 h _ N.out);have T:=J.out
     omega)
    clear G;go_wp2;go_ret;rw[E.out];exact⟨rfl,I.out _⟩
  ·have D:=fun ty=>run_next_end (P:=Tryz.prog) w s pos ty A
   have E:Hid (ke s.data.toList=true):=Qh (by
    unfold ke;rw[List.all_eq_true];intro x H
    exact decide_eq_true (L.out x (by rw[List.take_of_length_le (by rw[M.out];omega)];exact H)))
   go_wp2;go_ret;rw[E.out];exact⟨rfl,I.out _⟩
end Wr
namespace Rec
open Go.ChangeShapes Go.WideShapes Go.ChangeAt Go.RowKit Go.Shelf Base bM cr Path Go.Lib
theorem Cd (w:World) (k:Nat) (os:Array Obj):Below w.heap.size w (Sort.grow (w.drewN k) os):=
 ⟨rfl,rfl,rfl,by rw[Sort.size_grow];show w.heap.size≤w.heap.size+os.size;omega,fun j A=>by
  show(w.heap++os)[j]? =w.heap[j]?
  rw[Array.getElem?_append_left A]⟩
theorem Ac (m:Nat) (w:World) (hm:m≤9223372036854775807) (hN:Need w):
 Calls Tryz.prog 124 #[.int .i64 (m:Int)] w fun e w'=>e=.returned (.string (str (aJ m)))∧Below w.heap.size w w':=by
 refine(Any.strconv_Itoa Tryz.Le (m:Int) (by omega) (by omega) w hN.2.2).mono ?_;rintro e w' ⟨rfl,k,os,rfl⟩;rw[Hj];exact⟨rfl,Cd w k os⟩
theorem yA (m:Nat) (w:World) (h0:0<m) (hm:m≤1000000000000000) (hN:Need w):
 Calls Tryz.prog 156 #[.int .i64 (m:Int)] w fun e w'=>e=.returned (.string (str (aJ (gU m))))∧Below w.heap.size w w':=by
 have I:=Qh (Am m h0);have f:=Qh hN;have W:∀n,n<1000000000000000000→(aJ n).length≤18:=fun n h=>lK n 18 (by omega) h
 have Z:=Qh W;have R:=Qh (fI m);have r:(m:Int)≤1000000000000000:=by omega
 have O:=Qh hm;clear hN W hm h0
 go_enter Tryz.func156,Tryz.ntmps156
 go_wp2_with fail
 go_loopw [3] (fun s wr=>∃(S:ByteArray),s=.string S∧S.size≤18∧Hid (S=str []∨S=str (aJ m)∨(S=str (aJ (m+(aJ m).length))∧(aJ (m+(aJ m).length)).length≠(aJ m).length))∧Hid (Below w.heap.size w wr)) (fun s _=>match s with|.string b=>(if b.size=0 then 2 else if b.size=(aJ m).length then 1 else 0)|_=>0)
 case atStart=>exact⟨str [],rfl,by rw[au];simp,Qh (.inl rfl),Qh (Below.refl _ _)⟩
 case round=>
  obtain⟨S,rfl,l,Y,E⟩:=hrel;obtain⟨d,hd⟩:∃d,S.size=d:=⟨_,rfl⟩
  have o:(d:Int)≤18:=by omega
  obtain⟨X,H⟩:∃X,X=str (aJ (m+d)):=⟨_,rfl⟩
  have J:=Qh H
  have N:Hid (Calls Tryz.prog 124 #[.int .i64 ((m:Int)+(d:Int))] wr fun e w'=>e=.returned (.string X)∧Below wr.heap.size wr w'):=Qh (by
   have:=Ac (m+d) wr (by have:=O.out;omega) (f.out.below E.out);rw[H]
   rwa [show((m+d:Nat):Int)=(m:Int)+(d:Int) by omega]at this)
  have L:Hid (X.size=(aJ (m+d)).length):=Qh (by rw[H,au]);have g:Hid (X.size≤18):=Qh (by rw[L.out];exact Z.out _ (by have:=O.out;omega));have U:=Qh hd;clear H l
  by_cases G:X.size=d
  ·have p:((X.size:Int)==(d:Int))=true:=by rw[G];simp
   have c:Hid (X=str (aJ (gU m))):=Qh (by
    have B:=L.out;have t:=R.out;have A:=U.out;rw[J.out]
    congr 2
    rcases Y.out with e|e|⟨e,ne⟩
    ·rw[e,au]at A
     obtain rfl:d=0:=by simpa using A.symm
     rw[Nat.add_zero]at B;omega
    ·rw[e,au]at A
     rw[G,←A]at B;rcases I.out with⟨l1,l2⟩|⟨l1,l2,l3⟩
     ·rw[l1,←A]
     ·exact absurd B.symm l2
    ·rw[e,au]at A
     rcases I.out with⟨l1,l2⟩|⟨l1,l2,l3⟩
     ·exact absurd l2 ne
     ·rw[l1,←A])
   clear G;go_wp2_with fail;refine N.out.mono ?_;rintro e u ⟨rfl,D⟩;have M:=Qh (E.out.trans (D.mono E.out.size));clear D;go_wp2;go_ret;exact⟨by rw[c.out];rfl,M.out⟩
  ·have p:((X.size:Int)==(d:Int))=false:=by rw[beq_eq_false_iff_ne];omega
   have T:=Qh G
   have V:Hid (S=str []∧X=str (aJ m)∨S=str (aJ m)∧(X=str (aJ (m+(aJ m).length))∧(aJ (m+(aJ m).length)).length≠(aJ m).length)):=Qh (by
    have B:=L.out;have A:=U.out;rcases Y.out with e|e|⟨e,ne⟩
    ·rw[e,au]at A
     obtain rfl:d=0:=by simpa using A.symm
     exact .inl ⟨e,by rw[J.out,Nat.add_zero]⟩
    ·rw[e,au]at A
     refine .inr ⟨e,by rw[J.out,A],?_⟩;rw[A,←B];exact T.out
    ·rw[e,au]at A
     rcases I.out with⟨l1,l2⟩|⟨l1,l2,l3⟩
     ·exact absurd l2 ne
     ·rw[A]at l3
      exact absurd (B.trans l3) T.out)
   clear G;go_wp2_with fail;refine N.out.mono ?_;rintro e u ⟨rfl,D⟩;have M:=Qh (E.out.trans (D.mono E.out.size));clear D;go_wp2_with fail;go_roundw
   case rel=>exact⟨X,rfl,g.out,Qh (by
    rcases V.out with⟨_,e⟩|⟨_,e⟩
    ·exact .inr (.inl e)
    ·exact .inr (.inr e)),M⟩
   case measure=>
    have t:=R.out;rcases V.out with⟨e1,e2⟩|⟨e1,e2,ne⟩
    ·rw[e1,e2]
     simp only[au,List.length_nil,if_true];rw[if_neg (by omega)];omega
    ·have q:=lL (show m≤m+(aJ m).length by omega)
     rw[e1,e2];simp only[au,if_true];rw[if_neg (by omega),if_neg ne,if_neg (by omega)];omega
end Rec
namespace Rec
open Go.ChangeShapes Go.WideShapes Go.ChangeAt Go.RowKit Go.Shelf Base bM cr Path ql Go.Lib
theorem Iv (l:List UInt8) (w:World) (h1:1≤l.length) (h2:l.length≤7) (hN:Need w):
 Calls Tryz.prog 207 #[.string (str l),.int .i64 10,.int .i64 64] w fun e w'=>
  ∃(u:Nat) (x:Value),e=.returned (.tuple #[.int .u64 (u:Int),x])∧Below w.heap.size w w'∧
   ((l.all bj=true∧u=gJ l∧x=.nilIface)∨(l.all bj=false∧u=0∧∃t y,x=.iface t y)):=by
 have A:=Io l h1 (by omega);have hs:(str l).size=l.length:=au l
 cases hd:l.all bj with
 |true=>
  rw[hd,if_pos rfl]at A;refine(Any.strconv_ParseUint_10_at64_ok Tryz.Lf (str l) (by omega) (gJ l) (by rw[bg];exact A) w).mono ?_;rintro e w' ⟨rfl,hw⟩;refine⟨gJ l,.nilIface,rfl,?_,.inl ⟨rfl,rfl,rfl⟩⟩;rcases hw with rfl|rfl
  ·exact Below.refl _ _
  ·exact xh w _ _
 |false=>
  rw[hd,if_neg (by simp)]at A;obtain⟨E,p,D⟩:=hN.2.1;refine(Any.strconv_ParseUint_10_at64_syntax_var Tryz.Lf (str l) (by omega) (by rw[bg];exact A) E p w D).mono ?_;rintro e w' ⟨N,rfl,_,_,B⟩;exact⟨0,_,rfl,B,.inr ⟨rfl,rfl,_,_,rfl⟩⟩
theorem tU (p:Option Addr) (n c:Nat) (bs:List UInt8) (w:World) (hn:bs.length=n) (hm:n≤1000000000000) (h:cD w p n bs) (hN:Need w):
 Calls Tryz.prog 180 #[.slice p n c] w fun e w'=>e=.returned (uz (l8 bs))∧Below w.heap.size w w':=by
 have mixed:Tryz.prog.follows .mixedOrders=true:=by kernel_rfl
 by_cases T:1≤n∧n≤7
 ·have hi:Jr (n:Int) 1 7=true:=fN (by omega) (by omega)
  obtain⟨b,o,rfl,hc⟩:=h (by omega);have L:=hc 0 (by omega);rw[Nat.add_zero]at L;obtain⟨C,B⟩:∃C:Nat,(bs.getD 0 0).toNat=C:=⟨_,rfl⟩
  rw[B]at L;have U:(0:Int)<(n:Int):=by omega
  by_cases A:bs.getD 0 0=48
  ·have e:l8 bs=none:=by unfold l8;rw[if_pos (.inr (.inr A))]
   rw[e];have R:((C:Int)==48)=true:=by rw[←B,A];rfl
   clear h hN hc A B e hn
   go_enter Tryz.func180,Tryz.ntmps180
   go_wp2_with (go_at_call 152;refine(kP _ _ _ _).mono ?_;rw[hi];rintro e N ⟨rfl,rfl⟩)
   go_ret2;exact⟨rfl,Below.refl _ _⟩
  ·have R:((C:Int)==48)=false:=by
    rw[beq_eq_false_iff_ne];intro e;refine A (UInt8.toNat_inj.1 ?_);rw[B];show C=48;omega
   have O:=Qh (Iv bs w (by omega) (by omega) hN);have cs:=cF h hn 26 5 9 Tryz.underlying26 Tryz.underlying5 Tryz.underlying9 c
   have M:Hid (l8 bs=if bs.all bj then some (gJ bs)else none):=Qh (by
    unfold l8
    rw[if_neg (by
     rintro(e|e|e)
     ·omega
     ·omega
     ·exact A e)])
   have I:Hid (bs.all bj=true→gJ bs<10000000):=Qh (fun hd=>by
    have V:=FF bs (List.all_eq_true.1 hd);have W:10 ^ bs.length≤10 ^ 7:=Nat.pow_le_pow_right (by omega) (by omega);have X:(10:Nat) ^ 7=10000000:=by decide
    omega)
   clear h hN hc A B hn
   go_enter Tryz.func180,Tryz.ntmps180
   go_wp2_with (go_at_call 152;refine(kP _ _ _ _).mono ?_;rw[hi];rintro e N ⟨rfl,rfl⟩)
   rw[show(⟨bs.toArray⟩:ByteArray)=str bs from rfl]
   go_at_call 207
   refine O.out.mono ?_;rintro e Z ⟨u,x,rfl,G,(⟨hd,rfl,rfl⟩|⟨hd,rfl,t,y,rfl⟩)⟩
   ·have hu:=I.out hd
    have E:Hid (l8 bs=some (gJ bs)):=Qh (by rw[M.out,hd];rfl);obtain⟨u,D⟩:∃u,gJ bs=u:=⟨_,rfl⟩
    rw[D]at hu E⊢;have Y:IntKind.i64.wrap (u:Int)=(u:Int):=by rw[IntKind.wrap_i64];omega
    have H:=Qh G;clear G hd D cs I;go_wp2_with fail
    go_quiet (fail)
    have J:=Qh (below_drewN H.out nq);go_wp2;go_ret2;rw[E.out];exact⟨rfl,J.out⟩
   ·have E:Hid (l8 bs=none):=Qh (by rw[M.out,hd];rfl)
    have H:=Qh G;clear G hd cs I;go_wp2_with fail
    go_quiet (fail)
    have J:=Qh (below_drewN H.out nq);go_wp2;go_ret2;rw[E.out];exact⟨rfl,J.out⟩
 ·have hi:Jr (n:Int) 1 7=false:=iR (by omega)
  have e:l8 bs=none:=by unfold l8;rw[if_pos (by omega)]
  rw[e];clear h hN e hn T
  go_enter Tryz.func180,Tryz.ntmps180
  go_wp2_with (go_at_call 152;refine(kP _ _ _ _).mono ?_;rw[hi];rintro e N ⟨rfl,rfl⟩)
  go_ret2;exact⟨rfl,Below.refl _ _⟩
theorem H6 (w:World) (t:TypeId) (x:Int):(w.alloc (.cells #[.int .u8 x] t (1,2))).cell? ⟨w.heap.size,0,none⟩=some (.int .u8 x):=by
 rw[World.cell?_alloc_mark];rfl
theorem vH (b o n c b2:Nat) (bs:List UInt8) (w:World) (hn:bs.length=n) (hc:n≤c) (hm:n≤1000000000000) (h:cD w (some ⟨b,o,none⟩) n bs) (h2:w.cell? ⟨b2,0,none⟩=some (.int .u8 32)):
 Calls Tryz.prog 109 #[.slice (some ⟨b,o,none⟩) n c,.slice (some ⟨b2,0,none⟩) 1 1] w fun e w'=>e=.returned (Lib.cutV (some ⟨b,o,none⟩) n c 1 (Lib.indexByte bs 32))∧∃q,w'=w.drewN q:=by
 have B:bytesOf (nums bs)=bs:=iC bs
 have A:=Any.bytes_Index_one Tryz.jF.index b o n c b2 0 1 (nums bs) 32 w (by rw[fA,hn]) (fun i hi=>by
  obtain⟨G,I,he,hcell⟩:=h (by omega)
  cases he
  rw[hcell i hi]
  simp[nums,List.getD,Qd (show i<bs.length by omega)]) h2
 rw[B,show(32:Int).toNat.toUInt8=32 from rfl]at A
 have D:0≤Lib.indexByte bs 32→Lib.indexByte bs 32+(1:Nat)≤n:=fun H=>by
  obtain⟨k,hk⟩:∃k:Nat,Lib.indexByte bs 32=k:=⟨(Lib.indexByte bs 32).toNat,by omega⟩
  have:=(Lib.indexByte_some hk).1;have E:=(List.getElem?_eq_some_iff.1 this).1;omega
 exact Any.bytes_Cut_of Tryz.jF (some ⟨b,o,none⟩) (some ⟨b2,0,none⟩) n c 1 1 (Lib.indexByte bs 32) w hc (Lib.indexByte_ge _ _) D (by omega) (A.mono fun e w' he=>⟨he.1,0,he.2⟩)
theorem Nw (b o n c b2:Nat) (bs:List UInt8) (w:World) (hn:bs.length=n) (hc:n≤c) (hm:n≤1000000000000) (h:cD w (some ⟨b,o,none⟩) n bs) (h2:w.cell? ⟨b2,0,none⟩=some (.int .u8 32)) (hi:Lib.indexByte bs 32<0):
 Calls Tryz.prog 109 #[.slice (some ⟨b,o,none⟩) n c,.slice (some ⟨b2,0,none⟩) 1 1] w fun e w'=>e=.returned (.tuple #[.slice (some ⟨b,o,none⟩) n c,.slice none 0 0,.bool false])∧∃q,w'=w.drewN q:=by
 have:=vH b o n c b2 bs w hn hc hm h h2;unfold Lib.cutV at this
 rwa [if_neg (by omega)]at this
theorem rJ (b o n c b2 i r:Nat) (bs:List UInt8) (w:World) (hn:bs.length=n) (hc:n≤c) (hm:n≤1000000000000) (h:cD w (some ⟨b,o,none⟩) n bs) (h2:w.cell? ⟨b2,0,none⟩=some (.int .u8 32)) (hi:Lib.indexByte bs 32=(i:Int)) (hr:n=i+1+r):
 Calls Tryz.prog 109 #[.slice (some ⟨b,o,none⟩) n c,.slice (some ⟨b2,0,none⟩) 1 1] w fun e w'=>∃q2 c2,e=.returned (.tuple #[.slice (some ⟨b,o,none⟩) i c,.slice q2 r c2,.bool true])∧r≤c2∧cD w' q2 r (bs.drop (i+1))∧∃q,w'=w.drewN q:=by
 refine(vH b o n c b2 bs w hn hc hm h h2).mono ?_;rintro e w' ⟨rfl,q,rfl⟩;unfold Lib.cutV;rw[if_pos (by omega),hi,Int.toNat_natCast];have hd:=h.drop (k:=i+1) (c:=c) (by omega) hc hn;rw[show n - (i+1)=r by omega]at hd;refine⟨_,c - (i+1),?_,by omega,hd.below (below_drewN (Below.refl _ _) q),q,rfl⟩;unfold Lib.fromV;rw[show n - (i+1)=r by omega]
def nL (r:Option (List UInt8 × Nat)):Value:=match r with
 |some (t,m)=>.tuple #[.string (str t),.int .i64 (m:Int),.bool true]
 |none=>.tuple #[.string ⟨#[]⟩,.int .i64 0,.bool false]
theorem DM (b o n c:Nat) (bs:List UInt8) (w:World) (hn:bs.length=n) (hc:n≤c) (hm:n≤1000000000000) (h:cD w (some ⟨b,o,none⟩) n bs) (hN:Need w):
 Calls Tryz.prog 140 #[.slice (some ⟨b,o,none⟩) n c] w fun e w'=>e=.returned (nL (oz bs))∧Below w.heap.size w w':=by
 have C5:=Lib.run_convert_bytes_const (P:=Tryz.prog) w 26 5 #[.int .u8 32] 1 1 Tryz.underlying26 Tryz.underlying5;obtain⟨wm,p⟩:∃wm,w.alloc (.cells #[.int .u8 32] 5 (1,2))=wm:=⟨_,rfl⟩
 have nb:Below w.heap.size w wm:=by rw[←p];exact(Below.refl _ _).alloc (Qk _) _
 have D:=Qh nb;have V:=Qh (by rw[←p];exact H6 w 5 32:wm.cell? ⟨w.heap.size,0,none⟩=some (.int .u8 32));have H:=Qh h;have l:=Qh hN;have J:=Qh hn;rw[show((#[.int .u8 32]:Array Value).size,(#[.int .u8 32]:Array Value).size+1)=(1,2)from rfl,p]at C5;clear nb h hN p
 by_cases X:Lib.indexByte bs 32<0
 ·have e:oz bs=none:=by unfold oz;rw[if_pos X]
  rw[e];have G:=Qh X;clear e X
  go_enter Tryz.func140,Tryz.ntmps140
  go_wp2_with fail
  refine(Nw b o n c w.heap.size bs wm J.out hc hm (H.out.below D.out) V.out G.out).mono ?_;rintro e u ⟨rfl,q,rfl⟩;have A:=Qh (below_drewN D.out q);go_wp2
  go_ret3
  exact⟨rfl,A.out⟩
 ·obtain⟨i,hi⟩:∃i:Nat,Lib.indexByte bs 32=i:=⟨(Lib.indexByte bs 32).toNat,by omega⟩
  obtain⟨V2,_,_⟩:=sD bs i hi;obtain⟨r,Z⟩:∃r,n=i+1+r:=⟨n - (i+1),by omega⟩
  have SN:(bs.take i).length=i:=by rw[Qg];omega
  have E:Hid (oz bs=match l8 (bs.take i)with
   |none=>none
   |some m=>if m<i+4∨bs.length<m∨bs.getD (m - 1) 0≠10 then none else some ((bs.drop (i+1)).take (m - 1 - (i+1)),m)):=Qh (by
    unfold oz;rw[if_neg X,hi,Int.toNat_natCast]
    all_goals (cases l8 (bs.take i)<;>rfl))
  have G:=Qh (And.intro hi Z);have VA:=Qh SN;have ab4:(i:Int)≤1000000000000:=by omega
  have ac5:(r:Int)≤1000000000000:=by omega
  have O:Hid (i≤1000000000000∧i≤n):=Qh (by omega);clear hi X SN V2
  cases I:l8 (bs.take i)with
  |none=>
   rw[I]at E
   have W:Hid (∀w,cD w (some ⟨b,o,none⟩) i (bs.take i)→Need w→Calls Tryz.prog 180 #[.slice (some ⟨b,o,none⟩) i c] w fun e w'=>e=.returned (.tuple #[.int .i64 0,.bool false])∧Below w.heap.size w w'):=Qh (fun w h1 h2=>by
    have:=tU (some ⟨b,o,none⟩) i c (bs.take i) w VA.out O.out.1 h1 h2;rw[I]at this
    exact this)
   rw[E.out];clear I E Z
   go_enter Tryz.func140,Tryz.ntmps140
   go_wp2_with fail
   refine(rJ b o n c w.heap.size i r bs wm J.out hc hm (H.out.below D.out) V.out G.out.1 G.out.2).mono ?_;rintro e u ⟨q2,c2,rfl,_,_,q,rfl⟩;have A:=Qh (below_drewN D.out q);go_wp2_with fail;refine(W.out _ ((H.out.take O.out.2).below A.out) (l.out.below A.out)).mono ?_;rintro e w2 ⟨rfl,B⟩;have L:=Qh (A.out.trans (B.mono A.out.size));clear B;go_wp2
   go_ret3
   exact⟨rfl,L.out⟩
  |some m=>
   have rO:=(wH I).2.2.2.2.2;rw[I]at E
   have W:Hid (∀w,cD w (some ⟨b,o,none⟩) i (bs.take i)→Need w→Calls Tryz.prog 180 #[.slice (some ⟨b,o,none⟩) i c] w fun e w'=>e=.returned (.tuple #[.int .i64 (m:Int),.bool true])∧Below w.heap.size w w'):=Qh (fun w h1 h2=>by
    have:=tU (some ⟨b,o,none⟩) i c (bs.take i) w VA.out O.out.1 h1 h2;rw[I]at this
    exact this)
   have ac0:(m:Int)<10000000:=by omega
   by_cases N:m<i+4∨n<m
   ·have T:Jr ((m:Int) - (i:Int) - 1) 3 (r:Int)=false:=iR (by omega)
    have U:Hid (oz bs=none):=Qh (by
     rw[E.out];simp only
     rw[if_pos (by rw[J.out];rcases N with h|h;exact .inl h;exact .inr (.inl h))])
    rw[U.out];have t:=Qh T;clear I E Z rO T N
    go_enter Tryz.func140,Tryz.ntmps140
    go_wp2_with fail
    refine(rJ b o n c w.heap.size i r bs wm J.out hc hm (H.out.below D.out) V.out G.out.1 G.out.2).mono ?_;rintro e u ⟨q2,c2,rfl,_,_,q,rfl⟩;have A:=Qh (below_drewN D.out q);go_wp2_with fail;refine(W.out _ ((H.out.take O.out.2).below A.out) (l.out.below A.out)).mono ?_;rintro e w2 ⟨rfl,B⟩;have L:=Qh (A.out.trans (B.mono A.out.size));clear B;go_wp2_with fail;refine(kP _ _ _ _).mono ?_;rw[t.out];rintro e w3 ⟨rfl,rfl⟩;go_wp2
    go_ret3
    exact⟨rfl,L.out⟩
   ·obtain⟨v,hv⟩:∃v,m=i+2+v:=⟨m - (i+2),by omega⟩
    have T:Jr ((v:Int)+1) 3 (r:Int)=true:=fN (by omega) (by omega);have t:=Qh T;have bt:(m:Int) - (i:Int) - 1=(v:Int)+1:=by omega
    have hvr:(v:Int)<(r:Int):=by omega
    have R:Hid (v<r∧v≤r):=Qh (by omega);obtain⟨C,Y⟩:∃C:Nat,(bs.getD (m - 1) 0).toNat=C:=⟨_,rfl⟩
    have HC:Hid (((bs.drop (i+1)).getD v 0).toNat=C):=Qh (by
     rw[←Y,show m - 1=i+1+v by omega]
     simp[List.getD])
    have y:Hid ((bs.drop (i+1)).length=r):=Qh (by rw[Qe];omega)
    by_cases M:bs.getD (m - 1) 0=10
    ·have hb:((C:Int) != 10)=false:=by rw[←Y,M];rfl
     have U:Hid (oz bs=some ((bs.drop (i+1)).take v,m)):=Qh (by
      rw[E.out];simp only
      rw[if_neg (by
       rw[J.out];rintro(h|h|h)
       ·exact N (.inl h)
       ·exact N (.inr h)
       ·exact h M),show m - 1 - (i+1)=v by omega])
     rw[U.out];clear I E Z rO T N Y M hv
     go_enter Tryz.func140,Tryz.ntmps140
     go_wp2_with fail
     refine(rJ b o n c w.heap.size i r bs wm J.out hc hm (H.out.below D.out) V.out G.out.1 G.out.2).mono ?_;rintro e u ⟨q2,c2,rfl,iv,d,q,rfl⟩;have A:=Qh (below_drewN D.out q);have z:=Qh d;clear d;go_wp2_with fail;refine(W.out _ ((H.out.take O.out.2).below A.out) (l.out.below A.out)).mono ?_;rintro e w2 ⟨rfl,B⟩;have L:=Qh (A.out.trans (B.mono A.out.size));have g:=Qh (z.out.below B);clear B;obtain⟨b3,o3,rfl,f⟩:=g.out (by have:=R.out;omega);have g0:=f v R.out.1;rw[HC.out]at g0;have cs:=cF (g.out.take R.out.2) (by rw[Qg,y.out];have:=R.out;omega) 26 5 9 Tryz.underlying26 Tryz.underlying5 Tryz.underlying9 c2;have HE3:Hid ((⟨((bs.drop (i+1)).take v).toArray⟩:ByteArray)=str ((bs.drop (i+1)).take v)):=Qh rfl;clear f;go_wp2_with fail;refine(kP _ _ _ _).mono ?_;rw[t.out];rintro e w3 ⟨rfl,rfl⟩;go_wp2
     go_ret3
     exact⟨rfl,L.out⟩
    ·have hb:((C:Int) != 10)=true:=by
      have:¬C=10:=fun e=>M (UInt8.toNat_inj.1 (by rw[Y,e];rfl))
      simp;omega
     have U:Hid (oz bs=none):=Qh (by
      rw[E.out];simp only
      rw[if_pos (.inr (.inr M))])
     rw[U.out];clear I E Z rO T N Y M hv
     go_enter Tryz.func140,Tryz.ntmps140
     go_wp2_with fail
     refine(rJ b o n c w.heap.size i r bs wm J.out hc hm (H.out.below D.out) V.out G.out.1 G.out.2).mono ?_;rintro e u ⟨q2,c2,rfl,iv,d,q,rfl⟩;have A:=Qh (below_drewN D.out q);have z:=Qh d;clear d;go_wp2_with fail;refine(W.out _ ((H.out.take O.out.2).below A.out) (l.out.below A.out)).mono ?_;rintro e w2 ⟨rfl,B⟩;have L:=Qh (A.out.trans (B.mono A.out.size));have g:=Qh (z.out.below B);clear B;obtain⟨b3,o3,rfl,f⟩:=g.out (by have:=R.out;omega);have g0:=f v R.out.1;rw[HC.out]at g0;clear f;go_wp2_with fail;refine(kP _ _ _ _).mono ?_;rw[t.out];rintro e w3 ⟨rfl,rfl⟩;go_wp2
     go_ret3
     exact⟨rfl,L.out⟩
end Rec
namespace Mem
open Go.ChangeShapes Go.WideShapes Go.ChangeAt Go.RowKit Hp Head Path Rec Attr Go.Lib
variable {m:aq}
theorem I0 (h:dd m):m.target.length≤200:=by
 rcases h.kind with k|k|k|k
 ·rw[h.none (.inl k)];simp
 ·exact((ox 9 6 (by decide) (by decide) _ _).1 (h.QV k)).2.2.2.2.2
 ·have:=h.sym k
  unfold dc at this;split at this
  ·cases this
  ·split at this
   ·cases this
   ·omega
 ·rw[h.none (.inr k)];simp
theorem wf_i64 (h0:0≤n) (h1:n≤9223372036854775807):(Lit.int .i64 n).wf=true:=by
 have A:IntKind.i64.min=-9223372036854775808:=rfl;have B:IntKind.i64.max=9223372036854775807:=rfl;simp only[Lit.wf,Bool.and_eq_true,decide_eq_true_eq];omega
theorem KE (h:dd m):∀i,(Lit.int .i64 (j0 (bh m) i)).wf=true:=by
 have h1:=h.mode;have A:=h.uid;have B:=h.gid;have D:=h.time;have E:=h.body;intro i;unfold j0 bh;split
 ·exact wf_i64 (n:=m.mode) h1.1 (by omega)
 ·simp only;split<;>exact wf_i64 (by omega) (by omega)
 ·simp only;split<;>exact wf_i64 (by omega) (by omega)
 ·exact wf_i64 (n:=(m.body.length:Int)) (by omega) (by omega)
 ·simp only;split<;>exact wf_i64 (by omega) (by omega)
 ·exact wf_i64 (by omega) (by omega)
theorem zP (h:dd m):(bh m).name.length≤140737488351232∧(bh m).link.length≤140737488351232:=by
 have h1:=h.tN;have A:=I0 h;unfold bh;constructor
 ·simp only;split
  ·decide
  ·omega
 ·simp only;split
  ·decide
  ·omega
theorem Oz {n:Nat} (h:n≤1048576):∀i,(Lit.int .i64 (j0 (yy n) i)).wf=true:=by
 intro i;unfold j0 yy;split
 ·exact wf_i64 (n:=0) (by omega) (by omega)
 ·exact wf_i64 (n:=0) (by omega) (by omega)
 ·exact wf_i64 (n:=0) (by omega) (by omega)
 ·exact wf_i64 (n:=(n:Int)) (by omega) (by omega)
 ·exact wf_i64 (n:=0) (by omega) (by omega)
 ·exact wf_i64 (by omega) (by omega)
end Mem
end Go.Proofs.YtdhibldkldlfpaaGreatDoor
