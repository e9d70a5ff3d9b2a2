/- Merged. -/
import Derived.Test.YtdhibldkldlfpaaGreatDoorEmitLeastX24
import Derived.Lib.ParseIntB
import Derived.Lib.AtoiTie
import Derived.Lib.ItoaNum
import Derived.Test.YtdhibldkldlfpaaGreatDoorEmitLeastX19
import Derived.Lib.LaidTab
import Derived.Test.YtdhibldkldlfpaaGreatDoorEmitLeastX6
import Derived.Test.YtdhibldkldlfpaaGreatDoorEmitLeastX10
namespace Go.Proofs.YtdhibldkldlfpaaGreatDoor
namespace Attr
end Attr
namespace Mem
end Mem
set_option linter.unusedVariables false
set_option maxHeartbeats 1000000
set_option maxRecDepth 100000
variable {n:Int} {b l v:List UInt8} {k:Nat}
namespace Rec
open Go.Lib Path
theorem JW (u:Nat):decDigits u=aJ u:=by
 induction u using Nat.strongRecOn with
 |ind u ih=>
  by_cases h:u<10
  ·rw[decDigits,dif_pos h,eD h,xr,Nat.mod_eq_of_lt h]
  ·rw[decDigits,dif_neg h,gj h,ih _ (by omega)]
   rfl
theorem G4 (u:Nat):itoa (u:Int)=aJ u:=by
 unfold itoa;rw[if_neg (by omega),Int.toNat_natCast,JW]
theorem Dn (l:List UInt8):∀acc k,acc<10 ^ k→k+l.length≤18→parseUintM (2 ^ 64 - 1) acc l=if l.all bk then .ok (l.foldl (fun n b=>n*10+(b.toNat - 48)) acc)else NumEnd.ofOption none:=by
 induction l with
 |nil=>intro acc k _ _;rfl
 |cons c r ih=>
  intro acc k h1 A;rw[List.length_cons]at A;have B:10 ^ k≤10 ^ 17:=Nat.pow_le_pow_right (by omega) (by omega);have D:(10:Nat) ^ 17=100000000000000000:=by decide
  rw[D]at B;rw[parseUintM,List.all_cons,List.foldl_cons]
  by_cases hc:48≤c.toNat∧c.toNat≤57
  ·have hd:bk c=true:=by simp[bk,hc]
   rw[if_pos hc,if_neg (by omega),if_neg (by have:(2:Nat) ^ 64 - 1=18446744073709551615:=by decide
                                             omega),hd,Bool.true_and]
   exact ih _ (k+1) (by rw[Nat.pow_succ];omega) (by omega)
  ·have hd:bk c=false:=by simp[bk];omega
   rw[if_neg hc,hd];rfl
theorem Hz (l:List UInt8) (h1:1≤l.length) (h2:l.length≤18):parseUintB 64 l=if l.all bk then .ok (gI l)else NumEnd.ofOption none:=by
 unfold parseUintB;rw[if_neg (by rintro rfl;simp at h1),Dn l 0 0 (by decide) (by omega)];rfl
def lY (l:List UInt8):Option Nat:=if l.length<1∨7<l.length∨l.getD 0 0=48 then none else if l.all bk then some (gI l)else none
theorem vV {m:Nat} (h:lY l=some m):1≤l.length∧l.length≤7∧l.getD 0 0≠48∧(∀b∈l,bk b=true)∧m=gI l∧m<10000000:=by
 unfold lY at h;split at h
 ·cases h
 ·next h1=>
  split at h
  ·next B=>
   cases h
   have A:=List.all_eq_true.1 B;refine⟨by omega,by omega,fun e=>h1 (.inr (.inr e)),A,rfl,?_⟩;have D:=Fs l A;have E:10 ^ l.length≤10 ^ 7:=Nat.pow_le_pow_right (by omega) (by omega);have G:(10:Nat) ^ 7=10000000:=by decide
   omega
  ·cases h
def ov (l:List UInt8):Option (List UInt8 × Nat):=
 if indexByte l 32<0 then none
 else match lY (l.take (indexByte l 32).toNat)with
 |none=>none
 |some m=>
  if m<(indexByte l 32).toNat+4∨l.length<m∨l.getD (m - 1) 0≠10 then none
  else some ((l.drop ((indexByte l 32).toNat+1)).take (m - 1 - ((indexByte l 32).toNat+1)),m)
theorem sx (l:List UInt8) (i:Nat) (hi:indexByte l 32=i):i<l.length∧l.getD i 0=32∧(∀j,j<i→l.getD j 0≠32):=by
 have h1:=Lib.indexByte_some hi;have D:=(List.getElem?_eq_some_iff.1 h1.1).1;refine⟨D,by rw[List.getD,h1.1];rfl,fun j E e=>?_⟩;have A:=h1.2 j E;have B:j<l.length:=by omega
 rw[List.getD,Qd B]at e;rw[Qd B]at A;exact A (by rw[←e];rfl)
theorem yk (R T:Int) (l:List UInt8):dA R T l=match ov l with
 |none=>.error R
 |some (t,m)=>if indexByte t 61<1 then .error R else if aQ t=false then .error T else .ok (t.take (indexByte t 61).toNat,t.drop ((indexByte t 61).toNat+1),m):=by
 obtain⟨c,W⟩:=Gp l;unfold ov
 by_cases I:indexByte l 32<0
 ·rw[if_pos I]
  simp only;unfold dA;rw[if_pos];have d:indexByte l 32=-1:=by have:=Lib.indexByte_ge l 32;omega
  by_cases hl:gm l=l.length
  ·exact .inr (.inr (.inr (.inl hl)))
  ·refine .inr (.inr (.inr (.inr fun e=>?_)))
   have hc:l.contains 32=false:=by rw[←cn.pJ,decide_eq_false (by omega)]
   exact cn.GL hc (gm l) (by omega) e
 ·rw[if_neg I]
  obtain⟨i,hi⟩:∃i:Nat,indexByte l 32=i:=⟨(indexByte l 32).toNat,by omega⟩
  obtain⟨Z,E,N⟩:=sx l i hi;rw[hi,Int.toNat_natCast];have J:(l.take i).length=i:=by rw[Qg];omega
  have D:∀j,j<i→(l.take i).getD j 0=l.getD j 0:=fun j A=>by
   rw[List.getD,List.getD,List.getElem?_take,if_pos A]
  cases B:lY (l.take i)with
  |none=>
   simp only;unfold dA;rw[if_pos]
   by_cases H:(l.take i).all bk=true
   ·have G:gm l=i:=Em l i (by omega) (fun j A=>by
     rw[←D j A];have:j<(l.take i).length:=by omega
     rw[List.getD,Qd this]
     exact List.all_eq_true.1 H _ (List.getElem_mem this)) (.inr (by rw[E];decide))
    unfold lY at B;rw[H,if_pos rfl,J]at B
    by_cases hc:i<1∨7<i∨(l.take i).getD 0 0=48
    ·rw[G]
     rcases hc with h|h|h
     ·exact .inl h
     ·exact .inr (.inl h)
     ·by_cases M:i<1
      ·exact .inl M
      ·rw[D 0 (by omega)]at h
       exact .inr (.inr (.inl h))
    ·rw[if_neg hc]at B
     cases B
   ·
    have V:gm l<i:=by
     rcases Nat.lt_or_ge (gm l) i with h|h
     ·exact h
     ·exfalso
      refine H (List.all_eq_true.2 fun b X=>W b ?_);obtain⟨j,A,rfl⟩:=List.mem_iff_getElem.1 X;rw[List.getElem_take];have L:j<(l.take (gm l)).length:=by rw[Qg];omega
      have:(l.take (gm l))[j]=l[j]'(by omega):=List.getElem_take;rw[←this];exact List.getElem_mem L
    exact .inr (.inr (.inr (.inr (N _ V))))
  |some m=>
   obtain⟨Y,n7,n48,O,U,_⟩:=vV B;rw[J]at Y n7;rw[D 0 (by omega)]at n48
   have G:gm l=i:=Em l i (by omega) (fun j A=>by
    rw[←D j A];have:j<(l.take i).length:=by omega
    rw[List.getD,Qd this]
    exact O _ (List.getElem_mem this)) (.inr (by rw[E];decide))
   simp only;unfold dA
   rw[G,←U,if_neg (by
    rintro(e|e|e|e|e)
    ·omega
    ·omega
    ·exact n48 e
    ·omega
    ·exact e E)]
   by_cases hc:m<i+4∨l.length<m∨l.getD (m - 1) 0≠10
   ·rw[if_pos hc,if_pos (by
     rcases hc with h|h|h
     ·exact .inr (.inl h)
     ·exact .inl h
     ·exact .inr (.inr h))]
   ·rw[if_neg hc,if_neg (by
     rintro(e|e|e)
     ·exact hc (.inr (.inl e))
     ·exact hc (.inl e)
     ·exact hc (.inr (.inr e)))]
theorem zQ (m:Nat) (hm:0<m):gT m=m+(aJ m).length∧(aJ (m+(aJ m).length)).length=(aJ m).length∨
 gT m=m+(aJ (m+(aJ m).length)).length∧(aJ (m+(aJ m).length)).length≠(aJ m).length∧(aJ (m+(aJ (m+(aJ m).length)).length)).length=(aJ (m+(aJ m).length)).length:=by
 have he:=tj m hm
 by_cases h:(aJ (m+(aJ m).length)).length=(aJ m).length
 ·left
  unfold gT;rw[if_pos h];exact⟨rfl,h⟩
 ·right
  have hl:gT m=m+(aJ m).length+1:=by unfold gT;rw[if_neg h]
  rw[hl]at he;have h1:=lJ (show m+(aJ m).length≤m+(aJ m).length+1 by omega);have B:=lJ (show m≤m+(aJ m).length by omega);have A:(aJ (m+(aJ m).length)).length=(aJ m).length+1:=by omega
  refine⟨by rw[hl,A];omega,h,?_⟩;rw[A,←Nat.add_assoc];omega
end Rec
namespace Attr
open Go.Lib Rec Hp
variable {k:List UInt8}
abbrev ca:=List (List UInt8 × List UInt8)
def aH:ca→List UInt8→Option (List UInt8)
 |[],_=>none
 |r::rs,k=>match aH rs k with
  |some v=>some v
  |none=>if r.1=k then some r.2 else none
theorem mO (a b:ca) (k:List UInt8):aH (a++b) k=match aH b k with
 |some v=>some v
 |none=>aH a k:=by
 induction a with
 |nil=>cases h:aH b k<;>simp[aH,h]
 |cons r a ih=>
  rw[List.cons_append,aH,ih]
  cases h:aH b k with
  |some v=>rfl
  |none=>rfl
theorem CN (a:ca) (r:List UInt8 × List UInt8) (k:List UInt8):aH (a++[r]) k=if r.1=k then some r.2 else aH a k:=by
 rw[mO]
 by_cases h:r.1=k<;>simp[aH,h]
theorem sZ {rs:ca} (h:∀r∈rs,r.1≠k):aH rs k=none:=by
 induction rs with
 |nil=>rfl
 |cons r rs ih=>
  rw[aH,ih fun x A=>h x (List.mem_cons_of_mem _ A)];simp[h r (List.mem_cons_self ..)]
theorem vO {rs:ca} (h:aH rs k=some v):∃r∈rs,r.1=k∧r.2=v:=by
 induction rs with
 |nil=>cases h
 |cons r rs ih=>
  rw[aH]at h
  cases hl:aH rs k with
  |some u=>
   rw[hl]at h ih;obtain⟨x,A,h1⟩:=ih h;exact⟨x,List.mem_cons_of_mem _ A,h1⟩
  |none=>
   rw[hl]at h
   by_cases hk:r.1=k
   ·simp only[hk,if_true]at h
    exact⟨r,List.mem_cons_self ..,hk,Option.some.inj h⟩
   ·simp[hk]at h
def eb (F:List UInt8→Option (List UInt8)) (own:ca) (k:List UInt8):List UInt8:=match aH own k with
 |some v=>v
 |none=>(F k).getD []
def oR:List UInt8→Option (List UInt8):=fun _=>none
def fM (F:List UInt8→Option (List UInt8)) (rs:ca):List UInt8→Option (List UInt8):=fun k=>match aH rs k with
 |some v=>some v
 |none=>F k
theorem vS (F:List UInt8→Option (List UInt8)):fM F []=F:=rfl
theorem Da (F:List UInt8→Option (List UInt8)) (rs:ca) (r:List UInt8 × List UInt8):fM F (rs++[r])=fun k=>if k=r.1 then some r.2 else fM F rs k:=by
 funext k
 unfold fM;rw[CN]
 by_cases h:k=r.1
 ·simp[h]
 ·have:¬r.1=k:=fun e=>h e.symm
  simp[h,this]
theorem C9 (F:List UInt8→Option (List UInt8)) (a b:ca):fM (fM F a) b=fM F (a++b):=by
 funext k
 unfold fM;rw[mO]
 cases aH b k<;>rfl
theorem tx (rs:ca):fM oR rs=aH rs:=by
 funext k
 unfold fM oR
 cases aH rs k<;>rfl
def uQ (l:List UInt8):Option Nat:=
 if 0≤indexByte l 46 then(if(l.drop ((indexByte l 46).toNat+1)).all bk then dd (l.take (indexByte l 46).toNat)else none)else dd l
def aI:Nat→List UInt8
 |0=>[117,105,100]|1=>[103,105,100]|2=>[109,116,105,109,101]|3=>[115,105,122,101]|4=>[112,97,116,104]|_=>[108,105,110,107,112,97,116,104]
def eh (time:Bool) (v:List UInt8) (old:Int):Option Int:=
 if v=[]then some old else Option.map Int.ofNat (if time then uQ v else dd v)
def aE (v old:List UInt8):List UInt8:=if v=[]then old else v
def eT (V:Nat→List UInt8) (h:ak):ak × Int:=
 match eh false (V 0) h.uid,eh false (V 1) h.gid,eh true (V 2) h.time,eh false (V 3) h.size with
 |some u,some g,some t,some s=>({h with name:=aE (V 4) h.name,link:=aE (V 5) h.link,uid:=u,gid:=g,time:=t,size:=s},0)
 |_,_,_,_=>(bG,4)
def cA (F:List UInt8→Option (List UInt8)) (own:ca) (h:ak):ak × Int:=eT (fun i=>eb F own (aI i)) h
theorem zc (l:List UInt8) (h:∀b∈l,bk b=true):∀acc,decFrom acc l=some (l.foldl (fun n b=>n*10+(b.toNat - 48)) acc):=by
 induction l with
 |nil=>intro acc;rfl
 |cons c l ih=>
  intro acc;have hc:=h c (List.mem_cons_self ..);simp only[bk,decide_eq_true_eq]at hc
  have hd:digitVal c=some (c.toNat - 48):=by
   simp[digitVal];omega
  rw[decFrom,hd];exact ih (fun b A=>h b (List.mem_cons_of_mem _ A)) _
theorem JN (l:List UInt8) (h0:l≠[]) (h:∀b∈l,bk b=true):atoi l=some (gI l:Int):=by
 cases l with
 |nil=>exact absurd rfl h0
 |cons c l=>
  have hc:=h c (List.mem_cons_self ..);simp only[bk,decide_eq_true_eq]at hc;have B:(c==45)=false:=beq_eq_false_iff_ne.2 fun e=>by subst e;exact absurd hc.1 (by decide)
  have A:(c==43)=false:=beq_eq_false_iff_ne.2 fun e=>by subst e;exact absurd hc.1 (by decide)
  unfold atoi;simp only[B,A,decNat,List.isEmpty_cons,zc _ h];rfl
theorem L2 (l:List UInt8):(trimS l [48,49,50,51,52,53,54,55,56,57]=[])↔∀b∈l,bk b=true:=by
 have hd:∀b:UInt8,([48,49,50,51,52,53,54,55,56,57]:List UInt8).contains b=bk b:=fun b=>by
  rw[Bool.eq_iff_iff];simp only[List.contains_iff_mem,bk,decide_eq_true_eq,List.mem_cons,List.not_mem_nil,or_false];constructor
  ·rintro(rfl|rfl|rfl|rfl|rfl|rfl|rfl|rfl|rfl|rfl)<;>decide
  ·intro h
   have e:∀n:Nat,b.toNat=n→b=UInt8.ofNat n:=fun n H=>by rw[←H];simp
   have:b.toNat=48∨b.toNat=49∨b.toNat=50∨b.toNat=51∨b.toNat=52∨b.toNat=53∨b.toNat=54∨b.toNat=55∨b.toNat=56∨b.toNat=57:=by omega
   rcases this with h|h|h|h|h|h|h|h|h|h<;>(have:=e _ h;subst this;decide)
 have E:∀l:List UInt8,l.dropWhile (([48,49,50,51,52,53,54,55,56,57]:List UInt8).contains ·)=[]↔∀b∈l,bk b=true:=fun l=>by
  induction l with
  |nil=>simp
  |cons c l ih=>
   rw[List.dropWhile_cons]
   by_cases hc:bk c=true
   ·rw[if_pos (by rw[hd];exact hc),ih]
    simp[hc]
   ·rw[if_neg (by rw[hd];exact hc)]
    simp[hc]
 have G:∀l:List UInt8,(∃b∈l,bk b=false)→∃b∈trimRightS l [48,49,50,51,52,53,54,55,56,57],bk b=false:=fun l h=>by
  unfold trimRightS;obtain⟨b,A,B⟩:=h
  have:∀m:List UInt8,b∈m→b∈m.dropWhile (([48,49,50,51,52,53,54,55,56,57]:List UInt8).contains ·):=fun m=>by
   induction m with
   |nil=>intro h;exact h
   |cons c m ih=>
    intro hm;rw[List.dropWhile_cons]
    by_cases hc:bk c=true
    ·rw[if_pos (by rw[hd];exact hc)]
     rcases List.mem_cons.1 hm with rfl|hm
     ·rw[B]at hc;cases hc
     ·exact ih hm
    ·rw[if_neg (by rw[hd];exact hc)]
     exact hm
  exact⟨b,List.mem_reverse.2 (this _ (List.mem_reverse.2 A)),B⟩
 unfold trimS trimLeftS;rw[E];constructor
 ·intro h b A
  cases B:bk b with
  |true=>rfl
  |false=>
   obtain⟨c,hc,D⟩:=G l ⟨b,A,B⟩;rw[h c hc]at D
   cases D
 ·intro h b A
  refine h b ?_;unfold trimRightS at A;exact List.mem_reverse.1 ((List.dropWhile_suffix _).subset (List.mem_reverse.1 A))
end Attr
namespace Mem
open Go.Lib Fp Hp Path Rec Attr
variable {e:Int} {H L t body:List UInt8} {F:List UInt8→Option (List UInt8)} {V:Nat→List UInt8} {h:ak}
structure av where
 path:List UInt8
 target:List UInt8
 kind:UInt8
 mode:Int
 uid:Int
 gid:Int
 time:Int
 body:List UInt8
deriving instance DecidableEq for av
def eu (mode uid gid time:Int):Bool:=decide (0≤mode∧mode≤4095∧0≤uid∧uid<2147483648∧0≤gid∧gid<2147483648∧0≤time∧time≤1099511627776)
def di (l:List UInt8):Bool:=decide (bz 9 6 l=(l,0))
def bC (m:av):Bool:=
 di m.path&&eu m.mode m.uid m.gid m.time&&decide (m.body.length≤1048576)&&(m.kind==48||m.body==[])&&
  (if m.kind=48∨m.kind=53 then m.target==[]else if m.kind=49 then di m.target else if m.kind=50 then decide (cY 9 6 m.target=0)else false)
structure RS where
 out:List av
 cU:ca
 own:ca
 name:Option (List UInt8)
 link:Option (List UInt8)
 eC:Bool
inductive Step where
 |fault (e:Int)
 |done
 |next (k:Nat) (s:RS)
def aR (n:Nat):Nat:=(n+511) / 512*512
def qj (l:List UInt8) (n:Int):Option (List UInt8 × Nat):=
 if 2097152<n∨l.length - 512<aR n.toNat then none else some ((l.drop 512).take n.toNat,512+aR n.toNat)
def iY (l:List UInt8) (h:ak) (s:RS):Step:=
 if(h.kind=120∧s.eC=true)∨(h.kind=76∧s.name.isSome=true)∨(h.kind=75∧s.link.isSome=true)then .fault 5
 else if 1048576<h.size then .fault 10
 else match qj l h.size with
  |none=>.fault 2
  |some (t,k)=>
   if h.kind=76 then .next k {s with name:=some (aF t)}
   else if h.kind=75 then .next k {s with link:=some (aF t)}
   else if(cG 5 9 t).2≠0 then .fault (cG 5 9 t).2
   else if h.kind=103 then .next k {s with cU:=s.cU++(cG 5 9 t).1}
   else .next k {s with eC:=true,own:=(cG 5 9 t).1}
def oQ (h:ak) (s:RS):Except Int (av × Int):=
 let a:=cA (aH s.cU) s.own {h with name:=s.name.getD h.name,link:=s.link.getD h.link}
 let c:=bz 9 6 a.1.name
 let d:=bz 9 6 a.1.link
 let t:=cY 9 6 a.1.link
 if a.2≠0 then .error a.2
 else if c.2≠0 then .error c.2
 else if eu a.1.mode a.1.uid a.1.gid a.1.time=false then .error 4
 else if a.1.kind=49∧d.2≠0 then .error d.2
 else if a.1.kind=50∧t≠0 then .error t
 else if a.1.kind≠48∧a.1.size≠0 then .error 4
 else if 1048576<a.1.size then .error 10
 else .ok (⟨c.1,if a.1.kind=49 then d.1 else if a.1.kind=50 then a.1.link else[],a.1.kind,a.1.mode,a.1.uid,a.1.gid,a.1.time,[]⟩,a.1.size)
def oP (l:List UInt8) (h:ak) (s:RS):Step:=
 if 4096≤s.out.length then .fault 10
 else if h.kind≠48∧h.kind≠49∧h.kind≠50∧h.kind≠53 then .fault 8
 else match oQ h s with
  |.error e=>.fault e
  |.ok (m,n)=>match qj l n with
   |none=>.fault 2
   |some (t,k)=>.next k {s with out:=s.out++[{m with body:=t}],own:=[],name:=none,link:=none,eC:=false}
def dy (l:List UInt8):Bool:=l.all (·==0)
def oH (k:UInt8):Bool:=k==120||k==103||k==76||k==75
def dM (l:List UInt8) (s:RS):Step:=
 if l.length<512 then .fault 2
 else if dy (l.take 512)then
  if l.length - 512<512 then .fault 2
  else if dy (l.drop 512)=false then .fault 9
  else if s.eC=true∨s.name.isSome=true∨s.link.isSome=true then .fault 5
  else .done
 else if(ba (l.take 512)).2≠0 then .fault (ba (l.take 512)).2
 else if oH (ba (l.take 512)).1.kind then iY l (ba (l.take 512)).1 s
 else oP l (ba (l.take 512)).1 s
def nN:Nat→List UInt8→Nat→RS→List av × Int × Nat
 |0,_,_,_=>([],2,0)
 |f+1,l,at_,s=>match dM l s with
  |.fault e=>([],e,at_)
  |.done=>(s.out,0,0)
  |.next k s'=>nN f (l.drop k) (at_+k) s'
def bH (l:List UInt8) (at_:Nat) (s:RS):List av × Int × Nat:=nN (l.length+1) l at_ s
def gH:RS:=⟨[],[],[],none,none,false⟩
def cK (b:List UInt8):List av × Int × Nat:=bH b 0 gH
theorem kA (h:qj l n=some (t,k)):k=512+aR n.toNat∧aR n.toNat≤l.length - 512∧t=(l.drop 512).take n.toNat∧n≤2097152:=by
 unfold qj at h;split at h
 ·cases h
 ·cases h
  exact⟨rfl,by omega,rfl,by omega⟩
theorem ko {s s':RS} (h:dM l s=.next k s'):512≤k∧k≤l.length:=by
 unfold dM at h;split at h
 ·cases h
 ·rename_i D
  split at h
  ·split at h
   ·cases h
   ·split at h
    ·cases h
    ·split at h<;>cases h
  ·split at h
   ·cases h
   ·split at h
    ·unfold iY at h
     split at h
     ·cases h
     ·split at h
      ·cases h
      ·split at h
       ·cases h
       ·rename_i t k' A
        obtain⟨h1,B,_,_⟩:=kA A
        have hk:k=k':=by
         split at h
         ·cases h;rfl
         ·split at h
          ·cases h;rfl
          ·split at h
           ·cases h
           ·split at h<;>(cases h;rfl)
        omega
    ·unfold oP at h
     split at h
     ·cases h
     ·split at h
      ·cases h
      ·split at h
       ·cases h
       ·split at h
        ·cases h
        ·rename_i t k' A
         obtain⟨h1,B,_,_⟩:=kA A
         cases h
         omega
theorem Aq (n:Nat):∀m l at_ s,l.length<n→l.length<m→nN n l at_ s=nN m l at_ s:=by
 induction n with
 |zero=>intro m l at_ s h;omega
 |succ n ih=>
  intro m l at_ s h1 A
  cases m with
  |zero=>omega
  |succ m=>
   rw[nN,nN]
   cases hs:dM l s with
   |fault e=>rfl
   |done=>rfl
   |next k B=>
    obtain⟨g1,g2⟩:=ko hs;exact ih m _ _ _ (by rw[Qe];omega) (by rw[Qe];omega)
theorem jW (l:List UInt8) (at_:Nat) (s:RS):bH l at_ s=match dM l s with
 |.fault e=>([],e,at_)
 |.done=>(s.out,0,0)
 |.next k s'=>bH (l.drop k) (at_+k) s':=by
 unfold bH;rw[nN]
 cases hs:dM l s with
 |fault e=>rfl
 |done=>rfl
 |next k s'=>
  obtain⟨g1,g2⟩:=ko hs;exact Aq _ _ _ _ _ (by rw[Qe];omega) (by omega)
theorem eH {s:RS} (h:dM l s=.fault e) (at_:Nat):bH l at_ s=([],e,at_):=by rw[jW,h]
theorem gL {s:RS} (h:dM l s=.done) (at_:Nat):bH l at_ s=(s.out,0,0):=by rw[jW,h]
theorem fb {s s':RS} (h:dM l s=.next k s') (at_:Nat):bH l at_ s=bH (l.drop k) (at_+k) s':=by rw[jW,h]
def j7 (l:List UInt8):Bool:=l.all fun b=>decide (b.toNat≤127)
def bq:List UInt8:=[64,108,111,110,103]
def UE:List UInt8:=[64,112,97,120]
def yg (n:Nat):ak:=⟨UE,[],120,0,0,0,0,(n:Int),false⟩
def iv (m:av):Bool:=(gh m.path).isNone||!j7 m.path
def fY (m:av):Bool:=decide (100<m.target.length)||!j7 m.target
def bj (m:av):ak:=
 ⟨if iv m then bq else m.path,if fY m then bq else m.target,m.kind,m.mode,if 2097151<m.uid then 0 else m.uid,if 2097151<m.gid then 0 else m.gid,if 8589934591<m.time then 0 else m.time,(m.body.length:Int),false⟩
def aO (m:av):ca:=
 (if iv m then[(aI 4,m.path)]else[])++(if fY m then[(aI 5,m.target)]else[])++(if 2097151<m.uid then[(aI 0,aJ m.uid.toNat)]else[])++
  (if 2097151<m.gid then[(aI 1,aJ m.gid.toNat)]else[])++(if 8589934591<m.time then[(aI 2,aJ m.time.toNat)]else[])
def ki (l:List UInt8):List UInt8:=l++List.replicate (aR l.length - l.length) 0
def fU (m:av):List UInt8:=
 (if aN (aO m)=[]then[]else(fa (yg (aN (aO m)).length)).getD []++ki (aN (aO m)))++((fa (bj m)).getD []++ki m.body)
def vm (ms:List av):List UInt8:=(ms.map fU).flatten++List.replicate 1024 0
theorem j4 (n:Nat):n≤aR n∧aR n<n+512:=by unfold aR;omega
theorem bB (l:List UInt8):(ki l).length=aR l.length:=by
 have:=(j4 l.length).1;simp only[ki,Qf,List.length_replicate];omega
theorem vu (H body rest:List UInt8) (hH:H.length=512) (hb:body.length≤2097152):qj (H++(ki body++rest)) (body.length:Int)=some (body,512+aR body.length):=by
 unfold qj;have A:=bB body;rw[if_neg (by simp only[Qf,hH,A,Int.toNat_natCast];omega),Int.toNat_natCast]
 congr 2
 rw[←hH,List.drop_left,ki,List.append_assoc,List.take_left'];rfl
theorem ze (H body rest:List UInt8) (hH:H.length=512):(H++(ki body++rest)).drop (512+aR body.length)=rest:=by
 rw[←hH,←bB,List.drop_append,List.drop_append];simp
theorem nO (base:Int) (hb:0<base):∀(k:Nat) (n:Int),0≤n→n<base ^ k→dV base k n=0
 |0,n,h0,h1=>by simp only[Int.pow_zero]at h1;simp only[dV];omega
 |k+1,n,h0,h1=>by
  rw[dV];refine nO base hb k _ (Int.ediv_nonneg h0 (by omega)) (Int.ediv_lt_of_lt_mul hb ?_)
  rwa [Int.pow_succ]at h1
theorem qL (h0:0≤n) (h1:n<2097152):(eZ n 8).isSome=true:=by
 rw[pT h0 (by omega) (by omega) (by omega) (nO 8 (by omega) _ n h0 (by simpa using h1))];rfl
theorem tJ (h0:0≤n) (h1:n<8589934592):(eZ n 12).isSome=true:=by
 rw[pT h0 (by omega) (by omega) (by omega) (nO 8 (by omega) _ n h0 (by simpa using h1))];rfl
theorem Fb (hc:(gh h.name).isSome=true) (hb:lg h=false) (hn:eV h=true):∃H,fa h=some H∧H.length=512∧ba H=(h,0):=by
 obtain⟨ps,A⟩:=Option.isSome_iff_exists.1 hc
 have e:fa h=some (ct (rp h ps.1 ps.2)):=by
  unfold fa;rw[A];simp[hb,hn]
 exact⟨_,e,bU _,GO e⟩
theorem sf (l:List UInt8) (h:∀b∈l,0<b.toNat∧b.toNat<128):aQ l=true:=by
 induction l with
 |nil=>exact pY
 |cons c l ih=>
  obtain⟨h1,A⟩:=zw c (h c (List.mem_cons_self ..)) l;rw[ea _ (by simp),if_pos h1,A];exact ih fun b B=>h b (List.mem_cons_of_mem _ B)
theorem qT (h:aQ l=true):∀x∈l,x≠0:=by
 rw[uj,Bool.and_eq_true,Bool.not_eq_true']at h;intro x A e;subst e;have:=h.2;rw[List.contains_eq_mem,decide_eq_false_iff_not]at this;exact this A
theorem sw (n:Nat):aQ (aJ n)=true:=sf _ fun b A=>by
 have:=ow n b A;simp only[bk,decide_eq_true_eq]at this;omega
theorem B6 (n:Nat):aJ n≠[]:=List.length_pos_iff.1 (fF n)
theorem p8 {n:Nat} (h:n<10 ^ 18):dd (aJ n)=some n:=by
 have h1:=fF n;have B:=lI n 18 (by omega) h;have A:(aJ n).all bk=true:=List.all_eq_true.2 (ow n);rw[dd,if_neg (by omega),if_pos A,AP]
theorem index_none (l:List UInt8) (c:UInt8) (h:c∉l):indexByte l c=-1:=by
 induction l with
 |nil=>rfl
 |cons b l ih=>
  have A:(b==c)=false:=beq_eq_false_iff_ne.2 fun e=>h (by rw[e];exact List.mem_cons_self ..)
  have hi:=ih fun hc=>h (List.mem_cons_of_mem _ hc)
  simp[indexByte,A,hi]
theorem Om {n:Nat} (h:n<10 ^ 18):uQ (aJ n)=some n:=by
 have:indexByte (aJ n) 46=-1:=index_none _ _ fun hc=>by
  have:=ow n 46 hc;exact absurd this (by decide)
 rw[uQ,this,if_neg (by omega),p8 h]
structure dh (m:av):Prop where
 path:bz 9 6 m.path=(m.path,0)
 Pp:aQ m.path=true
 UD:m.path≠[]
 wC:m.path.length≤200
 mode:0≤m.mode∧m.mode≤4095
 uid:0≤m.uid∧m.uid<2147483648
 gid:0≤m.gid∧m.gid<2147483648
 time:0≤m.time∧m.time≤1099511627776
 body:m.body.length≤1048576
 file:m.kind≠48→m.body=[]
 kind:m.kind=48∨m.kind=49∨m.kind=50∨m.kind=53
 none:m.kind=48∨m.kind=53→m.target=[]
 QE:m.kind=49→bz 9 6 m.target=(m.target,0)
 sym:m.kind=50→cY 9 6 m.target=0
 Pr:aQ m.target=true
 AK:m.target.length≤200
theorem ql (h:bz 9 6 l=(l,0)):aQ l=true∧l≠[]∧l.length≤200:=by
 have h1:=(oo 9 6 (by omega) (by omega) l l).1 h;have A:=nF 9 6 (by omega) (by omega) l l h;exact⟨h1.1,A.2.1,A.2.2.2⟩
theorem yt (h:cY 9 6 l=0):aQ l=true∧l≠[]∧l.length≤200:=by
 unfold cY at h;split at h
 ·omega
 ·rename_i h1
  split at h
  ·omega
  ·rename_i A
   simp only[not_or]at A;exact⟨by simpa using h1,A.1,by omega⟩
theorem eE {m:av} (h:bC m=true):dh m:=by
 simp only[bC,Bool.and_eq_true,di,eu,decide_eq_true_eq,Bool.or_eq_true,beq_iff_eq]at h;obtain⟨⟨⟨⟨h1,U⟩,L⟩,M⟩,A⟩:=h;obtain⟨O,R,T⟩:=ql h1
 have hk:(m.kind=48∨m.kind=49∨m.kind=50∨m.kind=53)∧((m.kind=48∨m.kind=53)→m.target=[])∧(m.kind=49→bz 9 6 m.target=(m.target,0))∧(m.kind=50→cY 9 6 m.target=0):=by
  split at A
  ·rename_i hk
   refine⟨by rcases hk with e|e<;>simp[e],fun _=>by simpa using A,fun e=>?_,fun e=>?_⟩<;>(rw[e]at hk;exact absurd hk (by decide))
  ·rename_i hk
   split at A
   ·rename_i B
    refine⟨by simp[B],fun e=>absurd e hk,fun _=>by simpa using A,fun e=>?_⟩;rw[B]at e;exact absurd e (by decide)
   ·rename_i B
    split at A
    ·rename_i J
     exact⟨by simp[J],fun e=>absurd e hk,fun e=>absurd e B,fun _=>by simpa using A⟩
    ·cases A
 obtain⟨G,D,H,I⟩:=hk
 have E:aQ m.target=true∧m.target.length≤200:=by
  rcases G with e|e|e|e
  ·rw[D (.inl e)];exact⟨pY,by simp⟩
  ·have:=ql (H e);exact⟨this.1,this.2.2⟩
  ·have:=yt (I e);exact⟨this.1,this.2.2⟩
  ·rw[D (.inr e)];exact⟨pY,by simp⟩
 exact⟨h1,O,R,T,by omega,by omega,by omega,by omega,L,fun N=>M.resolve_left N,G,D,H,I,E.1,E.2⟩
theorem vF {m:av} (h:dh m):∃H,fa (bj m)=some H∧H.length=512∧ba H=(bj m,0):=by
 refine Fb ?_ ?_ ?_
 ·show(gh (if iv m then bq else m.path)).isSome=true
  split
  ·rfl
  ·rename_i A
   simp only[iv,Bool.or_eq_true,not_or,Bool.not_eq_true,Option.isNone_eq_false_iff]at A;exact A.1
 ·have G:(bj m).name.contains 0=false:=by
   show(if iv m then bq else m.path).contains 0=false;split
   ·decide
   ·rw[List.contains_eq_mem,decide_eq_false_iff_not]
    exact fun D=>qT h.Pp 0 D rfl
  have I:(bj m).link.contains 0=false:=by
   show(if fY m then bq else m.target).contains 0=false;split
   ·decide
   ·rw[List.contains_eq_mem,decide_eq_false_iff_not]
    exact fun D=>qT h.Pr 0 D rfl
  have hl:(bj m).link.length≤100:=by
   show(if fY m then bq else m.target).length≤100;split
   ·decide
   ·rename_i A
    simp only[fY,Bool.or_eq_true,not_or,Bool.not_eq_true,decide_eq_false_iff_not]at A;omega
  have hk:(m.kind==0)=false:=by rcases h.kind with e|e|e|e<;>rw[e]<;>decide
  have L:((bj m).kind==0)=false:=hk;have B:(bj m).fh=false:=rfl;have E:decide (100<(bj m).link.length)=false:=decide_eq_false (by omega);simp only[lg,G,I,L,B,E,Bool.or_false]
 ·refine dt.2 fun i h1 M=>?_
  have hm:=h.mode;have hu:=h.uid;have B:=h.gid;have J:=h.time;have N:=h.body;obtain rfl|rfl|rfl|rfl|rfl:i=1∨i=2∨i=3∨i=4∨i=5:=by omega
  ·exact qL (n:=m.mode) hm.1 (by omega)
  ·show(eZ (if 2097151<m.uid then 0 else m.uid) 8).isSome=true
   split
   ·exact qL (by omega) (by omega)
   ·exact qL hu.1 (by omega)
  ·show(eZ (if 2097151<m.gid then 0 else m.gid) 8).isSome=true
   split
   ·exact qL (by omega) (by omega)
   ·exact qL B.1 (by omega)
  ·exact tJ (n:=(m.body.length:Int)) (by omega) (by omega)
  ·show(eZ (if 8589934591<m.time then 0 else m.time) 12).isSome=true
   split
   ·exact tJ (by omega) (by omega)
   ·exact tJ J.1 (by omega)
theorem Nl (name:List UInt8) (hn:name.length≤100) (hz:name.contains 0=false) (k:UInt8) (hk:k≠0) (n:Nat) (hs:n≤1048576):∃H,fa ⟨name,[],k,0,0,0,0,(n:Int),false⟩=some H∧H.length=512∧ba H=(⟨name,[],k,0,0,0,0,(n:Int),false⟩,0):=by
 refine Fb (by rw[nH hn];rfl) ?_ (dt.2 fun i h1 A=>?_)
 ·have:(k==0)=false:=beq_eq_false_iff_ne.2 hk
  simp only[lg,hz,this,List.length_nil,List.contains_nil,Bool.or_false];rfl
 ·obtain rfl|rfl|rfl|rfl|rfl:i=1∨i=2∨i=3∨i=4∨i=5:=by omega
  ·exact qL (n:=0) (by omega) (by omega)
  ·exact qL (n:=0) (by omega) (by omega)
  ·exact qL (n:=0) (by omega) (by omega)
  ·exact tJ (n:=(n:Int)) (by omega) (by omega)
  ·exact tJ (n:=0) (by omega) (by omega)
theorem Aj {n:Nat} (hs:n≤1048576):∃H,fa (yg n)=some H∧H.length=512∧ba H=(yg n,0):=Nl UE (by decide) (by decide) 120 (by decide) n hs
theorem oO (i:Nat) (hi:i<6) (h1:aQ v=true) (h2:v.length≤200):gw (aI i) v=true:=by
 have hk:(aI i).contains 61=false∧(aI i).isEmpty=false∧aQ (aI i)=true∧(aI i).length≤8:=by
  obtain rfl|rfl|rfl|rfl|rfl|rfl:i=0∨i=1∨i=2∨i=3∨i=4∨i=5:=by omega
  all_goals exact⟨by decide,by decide,sf _ (by decide),by decide⟩
 obtain⟨A,B,D,E⟩:=hk;simp only[gw,A,B,D,h1,Bool.not_false,Bool.true_and,decide_eq_true_eq];omega
theorem mI (h0:0≤n) (h:n≤1099511627776):(aJ n.toNat).length≤18:=lI _ 18 (by omega) (by omega)
theorem gE {m:av} (h:dh m):∀r∈aO m,gw r.1 r.2=true:=by
 intro r hr;have hu:=h.uid;have A:=h.gid;have B:=h.time;simp only[aO,List.mem_append]at hr
 have d:∀(c:Prop) [Decidable c] (k v:List UInt8),r∈(if c then[(k,v)]else[])→r=(k,v):=fun c _ k v hr=>by
  split at hr
  ·exact List.mem_singleton.1 hr
  ·cases hr
 rcases hr with(((hr|hr)|hr)|hr)|hr<;>(have e:=d _ _ _ hr;subst e)
 ·exact oO 4 (by omega) h.Pp h.wC
 ·exact oO 5 (by omega) h.Pr h.AK
 ·exact oO 0 (by omega) (sw _) (by have:=mI hu.1 (by omega);show(aJ _).length≤200;omega)
 ·exact oO 1 (by omega) (sw _) (by have:=mI A.1 (by omega);show(aJ _).length≤200;omega)
 ·exact oO 2 (by omega) (sw _) (by have:=mI B.1 (by omega);show(aJ _).length≤200;omega)
theorem nt {l:ca} (h:∀r∈l,gw r.1 r.2=true):cG 5 9 (aN l)=(l,0):=by
 have:=DD 5 9 l [] [] h;rw[List.append_nil,List.nil_append,o4]at this;exact this
theorem tk {n:Nat}:∀{l:ca},(∀r∈l,gw r.1 r.2=true∧r.1.length+r.2.length≤n)→(aN l).length≤l.length*(n+10)
 |[],_=>by simp[aN]
 |r::l,h=>by
  have E:=tk fun x B=>h x (List.mem_cons_of_mem _ B)
  obtain⟨h1,D⟩:=h r (List.mem_cons_self ..);obtain⟨d,_,_,_,_,A,_,hlen⟩:=nK h1;have e:aN (r::l)=cP r.1 r.2++aN l:=by simp[aN]
  rw[e,Qf,hlen,List.length_cons,Nat.succ_mul];omega
theorem KS (c:Prop) [Decidable c] (k v q:List UInt8):aH (if c then[(k,v)]else[]) q=if c∧k=q then some v else none:=by
 by_cases h:c
 ·by_cases hk:k=q<;>simp[aH,h,hk]
 ·simp[aH,h]
theorem DC (m:av):aH (aO m) (aI 0)=(if 2097151<m.uid then some (aJ m.uid.toNat)else none)∧aH (aO m) (aI 1)=(if 2097151<m.gid then some (aJ m.gid.toNat)else none)∧
 aH (aO m) (aI 2)=(if 8589934591<m.time then some (aJ m.time.toNat)else none)∧aH (aO m) (aI 3)=none∧aH (aO m) (aI 4)=(if iv m=true then some m.path else none)∧
 aH (aO m) (aI 5)=(if fY m=true then some m.target else none):=by
 unfold aO;simp only[mO,KS];have f:¬aI 1=aI 0:=by decide
 have L:¬aI 2=aI 0:=by decide
 have T:¬aI 4=aI 0:=by decide
 have Y:¬aI 5=aI 0:=by decide
 have g:¬aI 0=aI 1:=by decide
 have M:¬aI 2=aI 1:=by decide
 have U:¬aI 4=aI 1:=by decide
 have Z:¬aI 5=aI 1:=by decide
 have A:¬aI 0=aI 2:=by decide
 have G:¬aI 1=aI 2:=by decide
 have V:¬aI 4=aI 2:=by decide
 have b:¬aI 5=aI 2:=by decide
 have B:¬aI 0=aI 3:=by decide
 have H:¬aI 1=aI 3:=by decide
 have N:¬aI 2=aI 3:=by decide
 have W:¬aI 4=aI 3:=by decide
 have c:¬aI 5=aI 3:=by decide
 have D:¬aI 0=aI 4:=by decide
 have I:¬aI 1=aI 4:=by decide
 have O:¬aI 2=aI 4:=by decide
 have d:¬aI 5=aI 4:=by decide
 have E:¬aI 0=aI 5:=by decide
 have J:¬aI 1=aI 5:=by decide
 have R:¬aI 2=aI 5:=by decide
 have X:¬aI 4=aI 5:=by decide
 simp only[f,L,T,Y,g,M,U,Z,A,G,V,b,B,H,N,W,c,D,I,O,d,E,J,R,X,and_true,and_false,if_false];refine⟨?_,?_,?_,?_,?_,?_⟩
 ·by_cases h:2097151<m.uid<;>simp[h]
 ·by_cases h:2097151<m.gid<;>simp[h]
 ·by_cases h:8589934591<m.time<;>simp[h]
 ·simp
 ·simp
 ·by_cases h:fY m=true<;>simp[h]
def sE (F:List UInt8→Option (List UInt8)):Prop:=
 (∀i,1≤i→i<6→(F (aI i)).getD []=[])∧((F (aI 0)).getD []=[]∨∃n,dd ((F (aI 0)).getD [])=some n∧n<2147483648)
theorem GI:sE (aH []):=⟨fun i _ _=>rfl,.inl rfl⟩
def uY (F:List UInt8→Option (List UInt8)) (m:av):Int:=
 if 2097151<m.uid then m.uid else if(F (aI 0)).getD []=[]then m.uid else(((dd ((F (aI 0)).getD [])).getD 0:Nat):Int)
def mD (F:List UInt8→Option (List UInt8)) (m:av):av:={m with uid:=uY F m}
theorem IV (m:av):mD (aH []) m=m:=by
 have:uY (aH []) m=m.uid:=by
  unfold uY;split
  ·rfl
  ·exact if_pos rfl
 unfold mD;rw[this]
theorem Ou {m:av} (hF:sE F) (h:dh m):0≤uY F m∧uY F m<2147483648:=by
 unfold uY;have:=h.uid;split
 ·exact this
 ·split
  ·exact this
  ·rename_i h1 A
   obtain⟨n,B,hl⟩:=hF.2.resolve_left A;rw[B];simp only[Option.getD_some];omega
theorem yT {m:av} (hF:sE F) (h:dh m):
 cA F (aO m) (bj m)=(⟨m.path,m.target,m.kind,m.mode,uY F m,m.gid,m.time,(m.body.length:Int),false⟩,0):=by
 obtain⟨D,E,G,H,I,J⟩:=DC m;obtain⟨f,f0⟩:=hF;have hu:=h.uid;have O:=h.gid;have R:=h.time
 have L:eh false (eb F (aO m) (aI 0)) (bj m).uid=some (uY F m):=by
  have e:(bj m).uid=if 2097151<m.uid then 0 else m.uid:=rfl
  unfold eb uY;rw[D,e]
  by_cases hc:2097151<m.uid
  ·simp only[if_pos hc]
   unfold eh;rw[if_neg (B6 _)];simp only[Bool.false_eq_true,if_false];rw[p8 (by omega)];simp only[Option.map_some]
   congr 1
   show((m.uid.toNat:Nat):Int)=m.uid;omega
  ·simp only[if_neg hc]
   unfold eh
   by_cases A:(F (aI 0)).getD []=[]
   ·rw[if_pos A,if_pos A]
   ·rw[if_neg A,if_neg A]
    obtain⟨n,B,_⟩:=f0.resolve_left A;simp only[Bool.false_eq_true,if_false];rw[B];rfl
 have M:eh false (eb F (aO m) (aI 1)) (bj m).gid=some m.gid:=by
  have e:(bj m).gid=if 2097151<m.gid then 0 else m.gid:=rfl
  unfold eb;rw[E,e]
  by_cases hc:2097151<m.gid
  ·simp only[if_pos hc]
   unfold eh;rw[if_neg (B6 _)];simp only[Bool.false_eq_true,if_false];rw[p8 (by omega)];simp only[Option.map_some]
   congr 1
   show((m.gid.toNat:Nat):Int)=m.gid;omega
  ·simp only[if_neg hc]
   unfold eh;rw[if_pos (f 1 (by omega) (by omega))]
 have N:eh true (eb F (aO m) (aI 2)) (bj m).time=some m.time:=by
  have e:(bj m).time=if 8589934591<m.time then 0 else m.time:=rfl
  unfold eb;rw[G,e]
  by_cases hc:8589934591<m.time
  ·simp only[if_pos hc]
   unfold eh;rw[if_neg (B6 _)];simp only[if_true];rw[Om (by omega)];simp only[Option.map_some]
   congr 1
   show((m.time.toNat:Nat):Int)=m.time;omega
  ·simp only[if_neg hc]
   unfold eh;rw[if_pos (f 2 (by omega) (by omega))]
 have n3:eh false (eb F (aO m) (aI 3)) (bj m).size=some (m.body.length:Int):=by
  unfold eb;rw[H];unfold eh;rw[if_pos (f 3 (by omega) (by omega))];rfl
 have n4:aE (eb F (aO m) (aI 4)) (bj m).name=m.path:=by
  have e:(bj m).name=if iv m then bq else m.path:=rfl
  unfold eb;rw[I,e]
  by_cases hc:iv m=true
  ·simp only[if_pos hc]
   unfold aE;rw[if_neg h.UD]
  ·simp only[if_neg hc]
   unfold aE;rw[if_pos (f 4 (by omega) (by omega))]
 have n5:aE (eb F (aO m) (aI 5)) (bj m).link=m.target:=by
  have e:(bj m).link=if fY m then bq else m.target:=rfl
  unfold eb;rw[J,e]
  by_cases hc:fY m=true
  ·simp only[if_pos hc]
   unfold aE;rw[if_neg];intro e;rw[fY,e]at hc;simp[j7]at hc
  ·simp only[if_neg hc]
   unfold aE;rw[if_pos (f 5 (by omega) (by omega))]
 unfold cA eT;simp only[L,M,N,n3,n4,n5];rfl
theorem zU {m:av} (h:dh m) {s:RS} (hF:sE (aH s.cU)) (ho:s.own=aO m) (hn:s.name=none) (hl:s.link=none):
 oQ (bj m) s=.ok ({mD (aH s.cU) m with body:=[]},(m.body.length:Int)):=by
 have A:=yT hF h;have e:({bj m with name:=s.name.getD (bj m).name,link:=s.link.getD (bj m).link}:ak)=bj m:=by rw[hn,hl];rfl
 have hu:=Ou hF h
 have hm:eu m.mode (uY (aH s.cU) m) m.gid m.time=true:=by
  have h1:=h.mode;have E:=h.gid;have G:=h.time;simp only[eu,decide_eq_true_eq];omega
 unfold oQ;simp only[ho,e,A]
 rw[if_neg (by simp),h.path,if_neg (by simp),hm,if_neg (by simp),if_neg (by rintro⟨hk,hd⟩;rw[h.QE hk]at hd;exact hd rfl),if_neg (by rintro⟨hk,hd⟩;exact hd (h.sym hk)),
  if_neg (by rintro⟨hk,hd⟩;rw[h.file hk]at hd;exact hd rfl),if_neg (by have:=h.body;omega)]
 have B:(if m.kind=49 then(bz 9 6 m.target).1 else if m.kind=50 then m.target else[])=m.target:=by
  split
  ·rename_i hk
   rw[h.QE hk]
  ·rename_i hk
   split
   ·rfl
   ·rename_i D
    exact(h.none (by rcases h.kind with e|e|e|e<;>simp_all)).symm
 rw[B];rfl
theorem Cr (hr:ba H=(h,0)):au H 9=ez∨au H 9=qX:=by
 unfold ba at hr;split at hr
 ·cases (Prod.mk.inj hr).2
 ·split at hr
  ·cases (Prod.mk.inj hr).2
  ·split at hr
   ·cases (Prod.mk.inj hr).2
   ·rename_i _ _ B
    by_cases h1:au H 9=ez
    ·exact .inl h1
    ·by_cases A:au H 9=qX
     ·exact .inr A
     ·exact absurd ⟨h1,A⟩ B
theorem xB (hr:ba H=(h,0)):dy H=false:=by
 cases A:dy H with
 |false=>rfl
 |true=>
  have hm:(117:UInt8)∈au H 9∨(117:UInt8)∈au H 9:=by
   rcases Cr hr with e|e<;>rw[e]<;>simp[ez,qX]
  have hm:(117:UInt8)∈H:=List.mem_of_mem_drop (List.mem_of_mem_take (hm.elim id id));rw[dy,List.all_eq_true]at A;exact absurd (A 117 hm) (by decide)
theorem ub (hL:512≤L.length) (hH:L.take 512=H) (hr:ba H=(h,0)) (s:RS):dM L s=if oH h.kind then iY L h s else oP L h s:=by
 unfold dM;rw[if_neg (by omega),hH,xB hr,if_neg (by simp),hr,if_neg (by simp)]
theorem wU {X:List UInt8} (hH:H.length=512):(H++X).take 512=H:=by rw[←hH,List.take_left'];rfl
theorem RA (hH:H.length=512) (hr:ba H=(h,0)) (hk:h.kind=120) (hz:h.size=(body.length:Int)) (hb:body.length≤1048576) {rs:ca} (iG:cG 5 9 body=(rs,0)) (rest:List UInt8) (s:RS) (hx:s.eC=false):
 dM (H++(ki body++rest)) s=.next (512+aR body.length) {s with eC:=true,own:=rs}:=by
 rw[ub (by rw[Qf];omega) (wU hH) hr,hk,if_pos (by decide),iY,hk,if_neg (by simp[hx]),hz,if_neg (by omega),vu H body rest hH (by omega)];simp only[iG];rfl
theorem Yt {k:UInt8} (h:k=48∨k=49∨k=50∨k=53):oH k=false∧¬(k≠48∧k≠49∧k≠50∧k≠53):=by
 rcases h with e|e|e|e<;>rw[e]<;>exact⟨by decide,by decide⟩
theorem Rz (hH:H.length=512) (hr:ba H=(h,0)) (hk:h.kind=48∨h.kind=49∨h.kind=50∨h.kind=53) {m:av} {s:RS} (hm:oQ h s=.ok (m,(body.length:Int))) (hb:body.length≤1048576) (rest:List UInt8) (ho:s.out.length<4096):
 dM (H++(ki body++rest)) s=.next (512+aR body.length) {s with out:=s.out++[{m with body:=body}],own:=[],name:=none,link:=none,eC:=false}:=by
 obtain⟨A,B⟩:=Yt hk;rw[ub (by rw[Qf];omega) (wU hH) hr,A,if_neg (by simp),oP,if_neg (by omega),if_neg B,hm];simp only;rw[vu H body rest hH (by omega)]
theorem wR (h:L.length<512) (s:RS):dM L s=.fault 2:=by
 unfold dM;rw[if_pos h]
structure Bb (s:RS):Prop where
 own:s.own=[]
 name:s.name=none
 link:s.link=none
 eC:s.eC=false
theorem tY:Bb gH:=⟨rfl,rfl,rfl,rfl⟩
def lV (s:RS) (ms:List av):RS:={s with out:=s.out++ms}
theorem tz {s:RS} (h:Bb s) (ms:List av):Bb (lV s ms):=⟨h.own,h.name,h.link,h.eC⟩
theorem sj {s:RS} (h:Bb s) (ms:List av):({s with out:=s.out++ms,own:=[],name:=none,link:=none,eC:=false}:RS)=lV s ms:=by
 obtain⟨h1,A,B,D⟩:=h
 cases s
 simp only at h1 A B D;subst h1;subst A;subst B;subst D;rfl
theorem DY (F:List UInt8→Option (List UInt8)) (m:av):({({mD F m with body:=[]}:av)with body:=m.body}:av)=mD F m:=rfl
theorem vR {l:ca} (hm:∀r∈l,gw r.1 r.2=true) (h:aN l=[]):l=[]:=by
 have h1:=nt hm;rw[h]at h1;have A:cG 5 9 []=([],0):=rfl;rw[A]at h1;exact(Prod.mk.inj h1).1.symm
theorem ke {m:av} (h:dh m):(aN (aO m)).length≤1048576:=by
 have h1:=gE h
 have B:(aO m).length≤5:=by
  have d:∀(c:Prop) [Decidable c] (k v:List UInt8),(if c then[(k,v)]else[]).length≤1:=fun c _ k v=>by split<;>simp
  simp only[aO,Qf];have d1:=d (iv m=true) (aI 4) m.path;have d2:=d (fY m=true) (aI 5) m.target;have d3:=d (2097151<m.uid) (aI 0) (aJ m.uid.toNat);have d4:=d (2097151<m.gid) (aI 1) (aJ m.gid.toNat);have d5:=d (8589934591<m.time) (aI 2) (aJ m.time.toNat);omega
 have D:=tk (n:=100000) fun r A=>⟨h1 r A,(kg (h1 r A)).2.2.2.2⟩
 have E:(aO m).length*(100000+10)≤5*(100000+10):=Nat.mul_le_mul_right _ B;omega
theorem kj {m:av} (h:dh m):∃H,fa (bj m)=some H∧H.length=512∧ba H=(bj m,0)∧
 ((aO m=[]∧fU m=H++ki m.body)∨∃X,fa (yg (aN (aO m)).length)=some X∧X.length=512∧ba X=(yg (aN (aO m)).length,0)∧fU m=X++ki (aN (aO m))++(H++ki m.body)):=by
 obtain⟨H,h1,B,D⟩:=vF h;refine⟨H,h1,B,D,?_⟩
 by_cases hl:aN (aO m)=[]
 ·refine .inl ⟨vR (gE h) hl,?_⟩
  rw[fU,if_pos hl,h1];rfl
 ·obtain⟨X,A,E,G⟩:=Aj (ke h)
  refine .inr ⟨X,A,E,G,?_⟩;rw[fU,if_neg hl,h1,A];rfl
theorem wE {m:av} (h:dh m) (hH:H.length=512) (hr:ba H=(bj m,0)) {s:RS} (hF:sE (aH s.cU)) (ho:s.own=aO m) (hn:s.name=none) (hl:s.link=none) (hs:s.out.length<4096) (rest:List UInt8) (at_:Nat):
 bH (H++(ki m.body++rest)) at_ s=bH rest (at_+(512+aR m.body.length)) {s with out:=s.out++[mD (aH s.cU) m],own:=[],name:=none,link:=none,eC:=false}:=by
 rw[fb (Rz hH hr h.kind (zU h hF ho hn hl) h.body rest hs),ze H m.body rest hH,DY]
theorem Ly {m:av} (h:dh m) {s:RS} (hs:Bb s) (hF:sE (aH s.cU)) (ho:s.out.length<4096) (rest:List UInt8) (at_:Nat):
 bH (fU m++rest) at_ s=bH rest (at_+(fU m).length) (lV s [mD (aH s.cU) m]):=by
 obtain⟨H,_,A,B,hl⟩:=kj h;rcases hl with⟨hr,e⟩|⟨X,_,x2,x3,e⟩
 ·have hlen:(fU m).length=512+aR m.body.length:=by rw[e,Qf,A,bB]
  rw[hlen,e,List.append_assoc,wE h A B hF (by rw[hs.own,hr]) hs.name hs.link ho,sj hs]
 ·have hlen:(fU m).length=512+aR (aN (aO m)).length+(512+aR m.body.length):=by
   rw[e,Qf,Qf,Qf,A,x2,bB,bB]
  rw[hlen,e,List.append_assoc,List.append_assoc,fb (RA x2 x3 rfl rfl (ke h) (nt (gE h)) _ s hs.eC),ze X _ _ x2,List.append_assoc,
   wE (s:={s with eC:=true,own:=aO m}) h A B hF rfl hs.name hs.link ho,Nat.add_assoc]
  congr 1
  exact sj hs _
def cw (ms:List av):List UInt8:=(ms.map fU).flatten
theorem fN (m:av) (ms:List av):cw (m::ms)=fU m++cw ms:=by simp[cw]
theorem Al (a b:List av):cw (a++b)=cw a++cw b:=by simp[cw]
theorem lF (ms:List av):vm ms=cw ms++List.replicate 1024 0:=rfl
theorem Db (s:RS) (a b:List av):lV (lV s a) b=lV s (a++b):=by simp[lV]
theorem tA (s:RS) (a:List av):(lV s a).cU=s.cU:=rfl
theorem vT (s:RS) (a:List av):(lV s a).out=s.out++a:=rfl
theorem As:∀(ms:List av) {s:RS} (hs:Bb s) (hF:sE (aH s.cU)) (h:∀m∈ms,dh m) (ho:s.out.length+ms.length≤4096) (rest:List UInt8) (at_:Nat),
 bH (cw ms++rest) at_ s=bH rest (at_+(cw ms).length) (lV s (ms.map (mD (aH s.cU))))
 |[],s,hs,hF,h,ho,rest,at_=>by simp[cw,lV]
 |m::ms,s,hs,hF,h,ho,rest,at_=>by
  have hl:s.out.length+(ms.length+1)≤4096:=ho
  rw[fN,List.append_assoc,Ly (h m (List.mem_cons_self ..)) hs hF (by omega),
   As ms (tz hs _) (by rw[tA];exact hF) (fun x A=>h x (List.mem_cons_of_mem _ A)) (by rw[vT,Qf];simp only[List.length_cons,List.length_nil];omega),
   Db,tA,Qf,Nat.add_assoc]
  rfl
theorem qV (n:Nat):dy (List.replicate n 0)=true:=by
 rw[dy,List.all_eq_true];intro x A;rw[(List.mem_replicate.1 A).2];rfl
theorem Qm {s:RS} (hs:Bb s) (n:Nat) (hn:1024≤n) (at_:Nat):bH (List.replicate n 0) at_ s=(s.out,0,0):=by
 refine gL ?_ at_;unfold dM
 rw[if_neg (by rw[List.length_replicate];omega),List.take_replicate,qV,if_pos rfl,if_neg (by rw[List.length_replicate];omega),List.drop_replicate,qV,if_neg (by simp),
  if_neg (by rw[hs.eC,hs.name,hs.link];simp)]
theorem uL (ms:List av):ms.map (mD (aH []))=ms:=by
 have:mD (aH [])=id:=funext IV;rw[this,List.map_id]
theorem Ih {ms:List av} (h:∀m∈ms,dh m) (hl:ms.length≤4096) (n:Nat):cK (vm ms++List.replicate n 0)=(ms,0,0):=by
 rw[cK,lF,List.append_assoc,List.replicate_append_replicate,As ms tY GI h (by show 0+ms.length≤4096;omega),Qm (tz tY _) _ (by omega),vT];show([]++ms.map (mD (aH [])),(0:Int),0)=_;rw[uL,List.nil_append]
theorem yS (h0:(eT V h).2=0):(eT V h).1.kind=h.kind:=by
 unfold eT at h0⊢;split
 ·rfl
 ·rename_i G
  exfalso;split at h0
  ·rename_i u g t s A B D E
   exact G u g t s A B D E
  ·simp at h0
theorem C8 {s:RS} {m:av} (hm:oQ h s=.ok (m,n)) (hk:¬(h.kind≠48∧h.kind≠49∧h.kind≠50∧h.kind≠53)) (ht:t.length≤n.toNat):bC {m with body:=t}=true:=by
 unfold oQ at hm;simp only at hm;generalize T:cA (aH s.cU) s.own {h with name:=s.name.getD h.name,link:=s.link.getD h.link}=a at hm;split at hm
 ·cases hm
 rename_i E;have E:a.2=0:=Decidable.of_not_not E
 have L:a.1.kind=h.kind:=by
  rw[←T]at E⊢;exact yS E
 split at hm
 ·cases hm
 rename_i hc;have hc:bz 9 6 a.1.name=((bz 9 6 a.1.name).1,0):=Prod.ext rfl (Decidable.of_not_not hc);split at hm
 ·cases hm
 rename_i M;split at hm
 ·cases hm
 rename_i hd;split at hm
 ·cases hm
 rename_i H;split at hm
 ·cases hm
 rename_i hf;split at hm
 ·cases hm
 rename_i hs
 cases hm
 have c1:=(nF 9 6 (by omega) (by omega) _ _ hc).1
 have k:a.1.kind=48∨a.1.kind=49∨a.1.kind=50∨a.1.kind=53:=by
  rw[L]
  by_cases A:h.kind=48
  ·exact .inl A
  by_cases B:h.kind=49
  ·exact .inr (.inl B)
  by_cases D:h.kind=50
  ·exact .inr (.inr (.inl D))
  by_cases I:h.kind=53
  ·exact .inr (.inr (.inr I))
  exact absurd ⟨A,B,D,I⟩ hk
 have G:eu a.1.mode a.1.uid a.1.gid a.1.time=true:=by simpa using M
 have N:a.1.kind=48∨t=[]:=by
  by_cases A:a.1.kind=48
  ·exact .inl A
  ·refine .inr (List.length_eq_zero_iff.1 ?_)
   have:a.1.size=0:=Decidable.of_not_not fun e=>hf ⟨A,e⟩
   rw[this]at ht
   simpa using ht
 have hlen:t.length≤1048576:=by omega
 have O:di (bz 9 6 a.1.name).1=true:=by rw[di,c1];simp
 have R:(a.1.kind==48||t==[])=true:=by rcases N with e|e<;>simp[e]
 simp only[bC,O,G,hlen,decide_true,R,Bool.true_and]
 by_cases A:a.1.kind=48∨a.1.kind=53
 ·rw[if_pos A,if_neg (by rcases A with e|e<;>rw[e]<;>decide),if_neg (by rcases A with e|e<;>rw[e]<;>decide)]
  rfl
 ·rw[if_neg A]
  by_cases B:a.1.kind=49
  ·have J:bz 9 6 a.1.link=((bz 9 6 a.1.link).1,0):=Prod.ext rfl (Decidable.of_not_not fun e=>hd ⟨B,e⟩)
   rw[if_pos B,if_pos B,di,(nF 9 6 (by omega) (by omega) _ _ J).1];simp
  ·have D:a.1.kind=50:=by
    rcases k with e|e|e|e
    ·exact absurd (.inl e) A
    ·exact absurd e B
    ·exact e
    ·exact absurd (.inr e) A
   rw[if_neg B,if_neg B,if_pos D,if_pos D];exact decide_eq_true (Decidable.of_not_not fun e=>H ⟨D,e⟩)
theorem ua {s:RS} (h:dM l s=.fault e):e≠0:=by
 unfold dM at h;split at h
 ·cases h;omega
 split at h
 ·split at h
  ·cases h;omega
  split at h
  ·cases h;omega
  split at h
  ·cases h;omega
  ·cases h
 split at h
 ·rename_i A
  cases h;exact A
 split at h
 ·unfold iY at h
  split at h
  ·cases h;omega
  split at h
  ·cases h;omega
  split at h
  ·cases h;omega
  split at h
  ·cases h
  split at h
  ·cases h
  split at h
  ·rename_i A
   cases h;exact A
  split at h<;>cases h
 ·unfold oP at h
  split at h
  ·cases h;omega
  split at h
  ·cases h;omega
  split at h
  ·rename_i B hm
   cases h
   unfold oQ at hm;simp only at hm;split at hm
   ·rename_i A;cases hm;exact A
   split at hm
   ·rename_i A;cases hm;exact A
   split at hm
   ·cases hm;omega
   split at hm
   ·rename_i A;cases hm;exact A.2
   split at hm
   ·rename_i A;cases hm;exact A.2
   split at hm
   ·cases hm;omega
   split at hm
   ·cases hm;omega
   ·cases hm
  split at h
  ·cases h;omega
  ·cases h
theorem kx (n:Nat):aR n % 512=0:=Nat.mul_mod_left _ _
theorem DQ {s s':RS} (h:dM l s=.next k s') (hg:∀m∈s.out,bC m=true):k % 512=0∧∀m∈s'.out,bC m=true:=by
 unfold dM at h;split at h
 ·cases h
 split at h
 ·split at h
  ·cases h
  split at h
  ·cases h
  split at h<;>cases h
 split at h
 ·cases h
 split at h
 ·unfold iY at h
  split at h
  ·cases h
  split at h
  ·cases h
  split at h
  ·cases h
  rename_i t k' A;have hk:=(kA A).1;have A:=kx (ba (l.take 512)).1.size.toNat;split at h
  ·cases h;exact⟨by omega,hg⟩
  split at h
  ·cases h;exact⟨by omega,hg⟩
  split at h
  ·cases h
  split at h<;>(cases h;exact⟨by omega,hg⟩)
 ·unfold oP at h
  split at h
  ·cases h
  split at h
  ·cases h
  rename_i B;split at h
  ·cases h
  rename_i m n hm;split at h
  ·cases h
  rename_i t k' A;obtain⟨hk,_,D,_⟩:=kA A;have A:=kx n.toNat
  cases h
  refine⟨by omega,fun x hx=>?_⟩;rcases List.mem_append.1 hx with hx|hx
  ·exact hg x hx
  ·rw[List.mem_singleton.1 hx]
   exact C8 hm B (by rw[D,Qg];omega)
theorem Dx (N:Nat):∀(l:List UInt8) (at_:Nat) (s:RS),l.length≤N→at_ % 512=0→(∀m∈s.out,bC m=true)→∀ms e a,bH l at_ s=(ms,e,a)→
 (e≠0∧ms=[]∧a≤at_+l.length∧a % 512=0)∨(e=0∧a=0∧∀m∈ms,bC m=true):=by
 induction N with
 |zero=>
  intro l at_ s hl A B ms e a h;rw[eH (wR (by omega) s)]at h
  cases h
  exact .inl ⟨by omega,rfl,by omega,A⟩
 |succ N ih=>
  intro l at_ s hl A B ms e a h
  cases hs:dM l s with
  |fault f=>
   rw[eH hs]at h
   cases h
   exact .inl ⟨ua hs,rfl,by omega,A⟩
  |done=>
   rw[gL hs]at h
   cases h
   exact .inr ⟨rfl,rfl,B⟩
  |next k I=>
   rw[fb hs]at h;obtain⟨E,G⟩:=ko hs;obtain⟨H,D⟩:=DQ hs B;rcases ih _ _ _ (by rw[Qe];omega) (by omega) D _ _ _ h with⟨r1,r2,r3,r4⟩|r
   ·rw[Qe]at r3
    exact .inl ⟨r1,r2,by omega,r4⟩
   ·exact .inr r
theorem tu {ms:List av} {a:Nat} (h:cK b=(ms,e,a)):(e≠0∧ms=[]∧a≤b.length∧a % 512=0)∨(e=0∧a=0∧∀m∈ms,bC m=true):=by
 have:=Dx b.length b 0 gH (Qk _) rfl (fun m hm=>by cases hm) ms e a h
 rwa [Nat.zero_add]at this
theorem Ax {R T:Int} {k:List UInt8} {m:Nat} (h:dA R T l=.ok (k,v,m)):k.length+v.length≤l.length:=by
 unfold dA at h;split at h
 ·cases h
 ·split at h
  ·cases h
  ·dsimp only at h
   split at h
   ·cases h
   ·split at h
    ·cases h
    ·cases h
     simp only[Qg,Qe];omega
theorem DB (R T:Int) (L:Nat):∀(n:Nat) (l:List UInt8) (acc:ca),l.length≤L→(∀r∈acc,r.1.length+r.2.length≤L)→acc.length+l.length≤L→(∀r∈(gD R T n l acc).1,r.1.length+r.2.length≤L)∧(gD R T n l acc).1.length≤L:=by
 intro n
 induction n with
 |zero=>intro l acc h1 A B;exact⟨A,by simp only[gD];omega⟩
 |succ n ih=>
  intro l acc h1 A B;rw[gD]
  by_cases hl:l=[]
  ·rw[if_pos hl];exact⟨A,by simp only;omega⟩
  ·rw[if_neg hl]
   cases hs:dA R T l with
   |error e=>exact⟨fun r hr=>by simp at hr,by simp⟩
   |ok x=>
    obtain⟨k,v,m⟩:=x;have D:=mi hs;have E:=Ax hs;refine ih _ _ (by rw[Qe];omega) (fun r hr=>?_) (by rw[Qe,Qf,List.length_singleton];omega);rcases List.mem_append.1 hr with hr|hr
    ·exact A r hr
    ·rw[List.mem_singleton]at hr
     subst hr;show k.length+v.length≤L;omega
theorem pU (R T:Int) (l:List UInt8):(∀r∈(cG R T l).1,r.1.length+r.2.length≤l.length)∧(cG R T l).1.length≤l.length:=
 DB R T l.length l.length l [] (Qk _) (fun r A=>by simp at A) (by simp)
theorem nS (l:List UInt8):(aF l).length≤l.length:=(List.takeWhile_sublist _).length_le
theorem Ox (bs:List UInt8) (i:Nat):0≤dO bs i:=by
 unfold dO
 cases h:bp (au bs i)with
 |none=>exact Int.le_refl _
 |some r=>exact(Hy h).1
theorem pD (bs:List UInt8) (i:Nat):(au bs i).length≤aj i:=by
 unfold au;rw[Qg];omega
theorem lM (bs:List UInt8):0≤(ba bs).1.size∧(ba bs).1.name.length≤1000∧(ba bs).1.link.length≤1000:=by
 unfold ba;split
 ·exact⟨by decide,by decide,by decide⟩
 ·split
  ·exact⟨by decide,by decide,by decide⟩
  ·split
   ·exact⟨by decide,by decide,by decide⟩
   ·split
    ·refine⟨Ox bs 4,?_,?_⟩
     ·show(kh _ _ _).length≤1000
      have h1:=nS (au bs 10);have D:=nS (au bs 0);have A:=pD bs 10;have E:=pD bs 0;have B:aj 10≤400:=by decide
      have G:aj 0≤400:=by decide
      unfold kh;split
      ·omega
      ·simp only[Qf,List.length_cons];omega
     ·show(aF _).length≤1000
      have h1:=nS (au bs 8);have A:=pD bs 8;have B:aj 8≤400:=by decide
      omega
    ·exact⟨by decide,by decide,by decide⟩
theorem Gc (L:Nat) (hV:∀i,i<6→(V i).length≤L) (h0:0≤h.size) (h1:h.name.length≤L) (h2:h.link.length≤L):0≤(eT V h).1.size∧(eT V h).1.name.length≤L∧(eT V h).1.link.length≤L:=by
 unfold eT;split
 ·rename_i u g t s B D E A
  refine⟨?_,?_,?_⟩
  ·show 0≤s
   unfold eh at A;split at A
   ·cases A;exact h0
   ·simp only[Bool.false_eq_true,if_false]at A
    cases hw:dd (V 3)with
    |none=>rw[hw]at A;cases A
    |some n=>rw[hw]at A;cases A;exact Int.natCast_nonneg n
  ·show(aE (V 4) h.name).length≤L
   unfold aE;split
   ·exact h1
   ·exact hV 4 (by omega)
  ·show(aE (V 5) h.link).length≤L
   unfold aE;split
   ·exact h2
   ·exact hV 5 (by omega)
 ·exact⟨by decide,Nat.zero_le _,Nat.zero_le _⟩
theorem zm {gs own:ca} {L:Nat} (h1:∀r∈gs,r.2.length≤L) (h2:∀r∈own,r.2.length≤L) (k:List UInt8):(eb (aH gs) own k).length≤L:=by
 unfold eb
 cases h:aH own k with
 |some v=>
  obtain⟨r,A,_,rfl⟩:=vO h;exact h2 r A
 |none=>
  cases B:aH gs k with
  |some v=>
   obtain⟨r,A,_,rfl⟩:=vO B
   simpa [B]using h1 r A
  |none=>simp
theorem CL (gs rs:ca):fM (aH gs) rs=aH (gs++rs):=by rw[←tx,C9,tx]
theorem IX:dy l=true↔∀x,x<l.length→l.getD x 0=0:=by
 unfold dy;rw[List.all_eq_true];constructor
 ·intro h x A
  rw[List.getD,Qd A]
  simpa using h _ (List.getElem_mem A)
 ·intro h x A
  obtain⟨i,hi,rfl⟩:=List.getElem_of_mem A;have:=h i hi;rw[List.getD,Qd hi]at this
  simpa using this
theorem Ak (hl:l.length=512):(((br l 512:Nat):Int)==0)=dy l:=by
 rw[Bool.eq_iff_iff,IX,hl];rw[←oY];simp
def rm:av:=⟨[],[],0,0,0,0,0,[]⟩
def oC (kind:UInt8) (link:List UInt8):List UInt8 × Int:=if kind=49 then bz 9 6 link else if kind=50 then(link,cY 9 6 link)else([],0)
def o8 (kind:UInt8) (n:Int):Int:=if kind≠48∧n≠0 then 4 else if 1048576<n then 10 else 0
def dG (h:ak):av × Int:=
 if(bz 9 6 h.name).2≠0 then(rm,(bz 9 6 h.name).2)
 else if eu h.mode h.uid h.gid h.time=false then(rm,4)
 else if(oC h.kind h.link).2≠0 then(rm,(oC h.kind h.link).2)
 else if o8 h.kind h.size≠0 then(rm,o8 h.kind h.size)
 else(⟨(bz 9 6 h.name).1,(oC h.kind h.link).1,h.kind,h.mode,h.uid,h.gid,h.time,[]⟩,0)
def ey (h:ak) (s:RS):ak:={h with name:=s.name.getD h.name,link:=s.link.getD h.link}
theorem K7 (h:ak) (s:RS):oQ h s=
 if(cA (aH s.cU) s.own (ey h s)).2≠0 then .error (cA (aH s.cU) s.own (ey h s)).2
 else if(dG (cA (aH s.cU) s.own (ey h s)).1).2≠0 then .error (dG (cA (aH s.cU) s.own (ey h s)).1).2
 else .ok ((dG (cA (aH s.cU) s.own (ey h s)).1).1,(cA (aH s.cU) s.own (ey h s)).1.size):=by
 unfold oQ ey
 dsimp only
 generalize cA (aH s.cU) s.own _=a
 by_cases h1:a.2≠0
 ·rw[if_pos h1,if_pos h1]
 ·rw[if_neg h1,if_neg h1]
  unfold dG
  by_cases H:(bz 9 6 a.1.name).2≠0
  ·simp only[if_pos H]
  ·simp only[if_neg H]
   by_cases I:eu a.1.mode a.1.uid a.1.gid a.1.time=false
   ·simp only[if_pos I];rfl
   ·simp only[if_neg I]
    unfold oC o8
    by_cases D:a.1.kind=49
    ·have E:¬a.1.kind=50:=by rw[D];decide
     have G:a.1.kind≠48:=by rw[D];decide
     by_cases B:(bz 9 6 a.1.link).2=0
     ·by_cases A:a.1.size=0
      ·simp[D,B,A]
      ·simp[D,B,A]
     ·simp[D,B]
    ·by_cases E:a.1.kind=50
     ·by_cases B:cY 9 6 a.1.link=0
      ·by_cases A:a.1.size=0
       ·simp[E,B,A]
       ·simp[E,B,A]
      ·simp[E,B]
     ·by_cases G:a.1.kind=48
      ·by_cases J:1048576<a.1.size
       ·simp[G,J]
       ·simp[G,J]
      ·by_cases A:a.1.size=0
       ·simp[D,E,G,A]
       ·simp[D,E,G,A]
def fL (k:UInt8):Bool:=k==48||k==49||k==50||k==53
def kH (m:av):ak:=⟨m.path,m.target,m.kind,m.mode,m.uid,m.gid,m.time,(m.body.length:Int),false⟩
theorem J7 (m:av):bC m=(fL m.kind&&decide ((dG (kH m)).2=0)&&decide ((dG (kH m)).1.path=m.path)&&decide ((dG (kH m)).1.target=m.target)):=by
 rw[Bool.eq_iff_iff];unfold bC fL dG kH di oC o8;simp only[Bool.and_eq_true,Bool.or_eq_true,decide_eq_true_eq,beq_iff_eq];obtain⟨⟨T,ce⟩,hc⟩:∃x,bz 9 6 m.path=x:=⟨_,rfl⟩
 obtain⟨⟨U,N⟩,hd⟩:∃x,bz 9 6 m.target=x:=⟨_,rfl⟩
 rw[hc,hd];have R:((m.body.length:Int)=0)↔m.body=[]:=by rw[←List.length_eq_zero_iff];omega
 have M:(1048576<(m.body.length:Int))↔1048576<m.body.length:=by omega
 have V:m.body=[]→¬1048576<m.body.length:=fun h=>by rw[h];simp
 simp only[Prod.mk.injEq,ne_eq,R,M]
 by_cases h1:ce=0
 ·by_cases J:eu m.mode m.uid m.gid m.time=false
  ·simp[h1,J,rm]
  ·have A:eu m.mode m.uid m.gid m.time=true:=by simpa using J
   by_cases H:m.kind=48
   ·by_cases L:1048576<m.body.length
    ·simp[h1,A,H,L]
     intro _ _;omega
    ·have O:m.body.length≤1048576:=by omega
     simp[h1,A,H,L,O,@eq_comm _ [] m.target]
   ·by_cases E:m.kind=49
    ·by_cases D:N=0
     ·by_cases B:m.body=[]
      ·simp[h1,A,E,D,B]
      ·simp[h1,A,E,D,B]
     ·simp[h1,A,E,D]
    ·by_cases G:m.kind=50
     ·by_cases D:cY 9 6 m.target=0
      ·by_cases B:m.body=[]
       ·simp[h1,A,G,D,B]
       ·simp[h1,A,G,D,B]
      ·simp[h1,A,G,D]
     ·by_cases I:m.kind=53
      ·by_cases B:m.body=[]
       ·simp[h1,A,I,B,@eq_comm _ [] m.target]
       ·simp[h1,A,I,B]
      ·simp[H,E,G,I]
 ·simp[h1]
end Mem
namespace Tre
open Mem
variable {a c:List UInt8}
def dI (a b:List UInt8):Bool:=Op.bytesLess a b
theorem ya (b:List UInt8):dI b []=false:=by cases b<;>rfl
theorem tr (a b:UInt8) (x y:List UInt8):dI (a::x) (b::y)=(decide (a<b)||(a==b&&dI x y)):=rfl
theorem fk (a:List UInt8):dI a a=false:=by
 induction a with
 |nil=>rfl
 |cons b l ih=>rw[tr,ih];simp
theorem gv (a:List UInt8):∀b c,dI a b=true→dI b c=true→dI a c=true:=by
 induction a with
 |nil=>intro b c h1 A
       cases c with
       |nil=>rw[ya]at A;cases A
       |cons c z=>rfl
 |cons a x ih=>
  intro b c h1 A
  cases b with
  |nil=>rw[ya]at h1;cases h1
  |cons b y=>
   cases c with
   |nil=>rw[ya]at A;cases A
   |cons c z=>
    rw[tr]at h1 A⊢;simp only[Bool.or_eq_true,decide_eq_true_eq,Bool.and_eq_true,beq_iff_eq]at h1 A⊢;rcases h1 with h1|⟨rfl,h1⟩
    ·rcases A with A|⟨rfl,A⟩
     ·exact .inl (UInt8.lt_trans h1 A)
     ·exact .inl h1
    ·rcases A with A|⟨rfl,A⟩
     ·exact .inl A
     ·exact .inr ⟨rfl,ih y z h1 A⟩
theorem EW (a:List UInt8):∀b,dI a b=false→dI b a=false→a=b:=by
 induction a with
 |nil=>
  intro b h1 A
  cases b with
  |nil=>rfl
  |cons b y=>exact absurd h1 (by simp[dI,Op.bytesLess])
 |cons a x ih=>
  intro b h1 A
  cases b with
  |nil=>exact absurd A (by simp[dI,Op.bytesLess])
  |cons b y=>
   rw[tr]at h1 A;simp only[Bool.or_eq_false_iff,decide_eq_false_iff_not]at h1 A
   have B:a=b:=by
    apply UInt8.le_antisymm
    ·exact UInt8.not_lt.1 A.1
    ·exact UInt8.not_lt.1 h1.1
   subst B;have D:dI x y=false:=by simpa using h1.2
   have E:dI y x=false:=by simpa using A.2
   rw[ih y D E]
theorem kf (h:dI a b=true):dI b a=false:=by
 cases A:dI b a with
 |false=>rfl
 |true=>have:=gv a b a h A;rw[fk]at this;cases this
theorem nM (h:dI a b=true):a≠b:=fun e=>by subst e;rw[fk]at h;cases h
theorem kN (h:dI a b=false) (cV:a≠b):dI b a=true:=by
 cases A:dI b a with
 |true=>rfl
 |false=>exact absurd (EW a b h A) cV
theorem x9 (h:dI b a=false) (h2:dI b c=true):dI a c=true:=by
 by_cases e:a=b
 ·rw[e];exact h2
 ·exact gv a b c (kN h (fun x=>e x.symm)) h2
theorem yb (h:dI a b=true) (h2:dI c b=false):dI a c=true:=by
 by_cases e:b=c
 ·rw[←e];exact h
 ·exact gv a b c h (kN h2 (fun x=>e x.symm))
structure aw where
 path:List UInt8
 target:List UInt8
 af:List UInt8
 kind:UInt8
 mode:Int
 uid:Int
 gid:Int
 time:Int
 body:List UInt8
deriving instance DecidableEq for aw
def bT:aw:=⟨[],[],[],0,0,0,0,0,[]⟩
def aw.mem (x:aw):av:=⟨x.path,x.target,x.kind,x.mode,x.uid,x.gid,x.time,x.body⟩
theorem NY {a b:aw} (h:a.mem=b.mem) (hl:a.af=b.af):a=b:=by
 cases a;cases b
 simp only[aw.mem,av.mk.injEq]at h
 simp_all
def gU (p:List UInt8) (m:av) (l:List UInt8):aw:=⟨p,m.target,l,m.kind,m.mode,m.uid,m.gid,m.time,m.body⟩
def cH:av:=⟨[],[],0,0,0,0,0,[]⟩
abbrev St:=List (List UInt8 × Nat)
def look (S:St) (p:List UInt8):Option Nat:=(S.find? fun e=>e.1==p).map (·.2)
def jm (S:St) (p:List UInt8) (n:Nat):St:=S.filter (fun e=>!(e.1==p))++[(p,n)]
def jS (ms:List av) (S:St) (i:Nat):Option St:=
 let m:=ms.getD i cH
 if m.kind=49 then
  match look S m.target with
  |none=>none
  |some n=>if(ms.getD n cH).kind=48 then some (jm S m.path n)else none
 else some (jm S m.path i)
def eF (ms:List av):Nat→Except Nat St
 |0=>.ok []
 |k+1=>match eF ms k with
  |.error i=>.error i
  |.ok S=>match jS ms S k with
   |none=>.error k
   |some S'=>.ok S'
def ni (T:St) (n:Nat):List UInt8:=((T.find? fun e=>e.2==n).map (·.1)).getD []
def qG (ms:List av) (T:St) (e:List UInt8 × Nat):aw:=
 gU e.1 (ms.getD e.2 cH) (if(ms.getD e.2 cH).kind=48 then ni T e.2 else[])
def KZ (a b:List UInt8 × Nat):Bool:=!dI b.1 a.1
def k8 (S:St):St:=S.mergeSort KZ
def mA (ms:List av) (S:St):List aw:=(k8 S).map (qG ms (k8 S))
def gQ (ms:List av):List aw × Int × Nat:=
 match ms.findIdx? (fun m=>!bC m)with
 |some i=>([],1,i)
 |none=>match eF ms ms.length with
  |.error i=>([],7,i)
  |.ok S=>(mA ms S,0,0)
def dE (t:List aw) (p:List UInt8):Option aw:=t.find? fun x=>x.path==p
def CW (o:Option aw) (x:aw):Bool:=
 match o with
 |none=>false
 |some y=>decide (y.kind=48)&&(decide (y.af=y.path)&&(decide (y.mode=x.mode∧y.uid=x.uid∧y.gid=x.gid∧y.time=x.time)&&decide (y.body=x.body)))
def iH (t:List aw) (x:aw):Bool:=
 if x.kind=48 then CW (dE t x.af) x else decide (x.af=[])
def eJ (x:aw):Bool:=decide (x.kind≠49)&&bC x.mem
def eo (t:List aw) (i:Nat):Bool:=
 let x:=t.getD i bT
 (eJ x&&(decide (i=0)||dI (t.getD (i - 1) bT).path x.path))&&iH (t.take (i+1)) x
def bD (t:List aw):Bool:=decide (t.length≤4096)&&(List.range t.length).all (eo t)
def eS (t:List aw):Prop:=t.Pairwise fun a b=>dI a.path b.path=true
end Tre
namespace Mem
open Go.Lib Fp Hp Path Rec Attr
variable {m:av}
theorem Lr (h:dh m):(fU m).length % 512=0∧512+aR m.body.length≤(fU m).length:=by
 have D:=kx m.body.length;have hl:=kx (aN (aO m)).length;obtain⟨H,_,A,_,(⟨_,e⟩|⟨X,_,B,_,e⟩)⟩:=kj h
 ·rw[e,Qf,bB,A];omega
 ·rw[e,Qf,Qf,Qf,bB,bB,A,B];omega
theorem Ig (h:dh m):∃H,fa (bj m)=some H∧H.length=512∧
 ((aO m=[]∧fU m=H++ki m.body)∨(aO m≠[]∧∃X,fa (yg (aN (aO m)).length)=some X∧X.length=512∧fU m=X++ki (aN (aO m))++(H++ki m.body))):=by
 obtain⟨H,h1,D,_⟩:=vF h;refine⟨H,h1,D,?_⟩
 by_cases A:aO m=[]
 ·refine .inl ⟨A,?_⟩
  rw[fU,A,if_pos (show aN []=[]from rfl),h1];rfl
 ·obtain⟨X,B,E,_⟩:=Aj (ke h)
  refine .inr ⟨A,X,B,E,?_⟩;rw[fU,if_neg (fun e=>A (vR (gE h) e)),h1,B];rfl
def Dr (m:av):Bool:=
 decide (m.path.length≤100)&&(decide (m.target.length≤100)&&(decide (m.uid≤2097151)&&(decide (m.gid≤2097151)&&(decide (m.time≤8589934591)&&(j7 m.path&&j7 m.target)))))
theorem Ds (h:Dr m=true):aO m=[]:=by
 unfold Dr at h;simp only[Bool.and_eq_true,decide_eq_true_eq]at h;obtain⟨h1,E,I,J,L,G,H⟩:=h;have B:iv m=false:=by unfold iv;rw[nH h1,G];rfl
 have D:fY m=false:=by
  unfold fY;rw[H]
  simpa using E
 unfold aO;rw[B,D];have A:¬2097151<m.uid:=by omega
 have a2:¬2097151<m.gid:=by omega
 have a3:¬8589934591<m.time:=by omega
 simp[A,a2,a3]
theorem Du (h:dh m) (hp:Dr m=true):(fU m).length=512+aR m.body.length:=by
 have B:=Ds hp;obtain⟨H,_,A,_,_⟩:=kj h
 have e:fU m=(fa (bj m)).getD []++ki m.body:=by
  unfold fU;rw[B,if_pos (show aN []=[]from rfl),List.nil_append]
 obtain⟨H,h1,A,_,_⟩:=kj h;rw[e,h1,Qf,bB];show H.length+_=_;rw[A]
theorem IC {s s':RS} (h:dM l s=.next k s') (hg:s.out.length≤4096):s'.out.length≤4096:=by
 unfold dM at h;split at h
 ·cases h
 ·split at h
  ·split at h
   ·cases h
   ·split at h
    ·cases h
    ·split at h<;>cases h
  ·split at h
   ·cases h
   ·split at h
    ·unfold iY at h
     split at h
     ·cases h
     ·split at h
      ·cases h
      ·split at h
       ·cases h
       ·split at h
        ·cases h;exact hg
        ·split at h
         ·cases h;exact hg
         ·split at h
          ·cases h
          ·split at h<;>(cases h;exact hg)
    ·unfold oP at h
     split at h
     ·cases h
     ·split at h
      ·cases h
      ·split at h
       ·cases h
       ·split at h
        ·cases h
        ·cases h
         simp only[Qf,List.length_singleton];omega
theorem Ii (N:Nat):∀(l:List UInt8) (at_:Nat) (s:RS),l.length≤N→s.out.length≤4096→(bH l at_ s).1.length≤4096:=by
 induction N with
 |zero=>
  intro l at_ s hl A;rw[eH (wR (by omega) s)];simp
 |succ N ih=>
  intro l at_ s hl A
  cases hs:dM l s with
  |fault f=>rw[eH hs];simp
  |done=>rw[gL hs];exact A
  |next k E=>
   rw[fb hs];obtain⟨B,D⟩:=ko hs;exact ih _ _ _ (by rw[Qe];omega) (IC hs A)
theorem uM (b:List UInt8):(cK b).1.length≤4096:=Ii b.length b 0 gH (Qk _) (by show(0:Nat)≤4096;omega)
end Mem
namespace Rec
open Go.ChangeShapes Go.WideShapes Go.ChangeAt Go.RowKit Go.Shelf Base bJ cn Path Go.Lib
variable {w w':World}
def Need (w:World):Prop:=Path.Tabs w∧(∃tp p,w.var? Tryz.prog "strconv.ErrSyntax"=some #[.iface tp p])∧Lib.TabIs Tryz.prog w "internal/strconv.uint64pow10" .u64 Lib.pow10Tab
theorem wX {P:Program} {n:String} {cs:Array Value} (h:w.var? P n=some cs) (hb:Below w.heap.size w w'):w'.var? P n=some cs:=by
 unfold World.var? at h⊢
 cases A:P.globalNamed n with
 |none=>simp[A]at h
 |some g=>
  simp only[A,Option.bind_some]at h⊢
  have B:g<w.heap.size:=by
   rcases Nat.lt_or_ge g w.heap.size with h'|h'
   ·exact h'
   ·simp[Array.getElem?_eq_none h']at h
  rw[hb.block g B];exact h
theorem Need.below (h:Need w) (hb:Below w.heap.size w w'):Need w':=
 ⟨h.1.below hb,by obtain⟨B,p,A⟩:=h.2.1;exact⟨B,p,wX A hb⟩,wX h.2.2 hb⟩
theorem Need.yr (h:Need w):Path.Tabs w:=h.1
end Rec
namespace Wr
open Go.ChangeShapes Go.WideShapes Go.ChangeAt Go.RowKit Base bJ cn Mem Go.Lib
theorem UY (s:ByteArray) (k:Nat) (hk:k<s.size):s[k]=s.data.toList.getD k 0:=by
 have h:k<s.data.toList.length:=by simpa using hk
 rw[List.getD,Qd h];rfl
theorem Ia (s:ByteArray) (w:World) (hm:s.size≤140737488351232):
 Calls Tryz.prog 122 #[.string s] w fun e w'=>e=.returned (.bool (j7 s.data.toList))∧Below w.heap.size w w':=by
 have M:Hid (s.data.toList.length=s.size):=Qh (by simp);have I:Hid (∀pos,Below w.heap.size w (w.iter s pos)):=Qh (fun pos=>(Below.refl _ _).alloc (Qk _) _)
 go_enter Tryz.func122,Tryz.ntmps122
 go_wp2
 go_loopw [2] (fun r wr=>r=.bool false∧∃(pos:Nat),wr=w.iter s pos∧pos≤s.size∧Hid (∀x∈s.data.toList.take pos,x.toNat≤127)) (fun _ wr=>s.size - wr.iterPos w.heap.size)
 case atStart=>exact⟨rfl,0,rfl,Nat.zero_le _,Qh (by simp)⟩
 case round=>
  obtain⟨rfl,pos,rfl,V,L⟩:=hrel
  by_cases A:pos<s.size
  ·have B:pos<s.data.toList.length:=by rw[M.out];exact A
   have J:Hid ((s[pos]).toNat=(s.data.toList.getD pos 0).toNat):=Qh (by rw[UY s pos A])
   have O:Hid (s.data.toList.take (pos+1)=s.data.toList.take pos++[s.data.toList.getD pos 0]):=Qh (by
    rw[List.take_succ_eq_append_getElem B,List.getD,Qd B];rfl)
   have N:Hid (s.data.toList.getD pos 0∈s.data.toList):=Qh (by
    rw[List.getD,Qd B];exact List.getElem_mem B)
   by_cases H:(s[pos]).toNat<128
   ·have D:=fun ty=>run_next_ascii (P:=Tryz.prog) w s pos ty A H
    have R:¬(127:Int)<((s[pos]).toNat:Int):=by omega
    go_wp2;go_roundw
    case rel=>exact⟨rfl,pos+1,rfl,by omega,Qh (fun y hy=>by
     rw[O.out,List.mem_append]at hy;rcases hy with hy|hy
     ·exact L.out y hy
     ·simp only[List.mem_singleton]at hy
      subst hy;have T:=J.out
      omega)⟩
    case measure=>simp;omega
   ·have D:=fun ty=>run_next_any (P:=Tryz.prog) w s pos ty A
    have hd:=decode_high s pos A (by omega);obtain⟨r,k,G⟩:∃r k,Utf8.decode s pos=(r,k):=⟨_,_,rfl⟩
    rw[G]at hd;simp only[G]at D;obtain⟨U,_⟩:=hd;have R:(127:Int)<(r:Int):=by omega
    have E:Hid (j7 s.data.toList=false):=Qh (by
     unfold j7;rw[Bool.eq_false_iff];intro h;have:=of_decide_eq_true (List.all_eq_true.1 h _ N.out);have T:=J.out
     omega)
    clear G;go_wp2;go_ret;rw[E.out];exact⟨rfl,I.out _⟩
  ·have D:=fun ty=>run_next_end (P:=Tryz.prog) w s pos ty A
   have E:Hid (j7 s.data.toList=true):=Qh (by
    unfold j7;rw[List.all_eq_true];intro x H
    exact decide_eq_true (L.out x (by rw[List.take_of_length_le (by rw[M.out];omega)];exact H)))
   go_wp2;go_ret;rw[E.out];exact⟨rfl,I.out _⟩
end Wr
namespace Rec
open Go.ChangeShapes Go.WideShapes Go.ChangeAt Go.RowKit Go.Shelf Base bJ cn Path Go.Lib
theorem BS (w:World) (k:Nat) (os:Array Obj):Below w.heap.size w (Sort.grow (w.drewN k) os):=
 ⟨rfl,rfl,rfl,by rw[Sort.size_grow];show w.heap.size≤w.heap.size+os.size;omega,fun j A=>by
  show(w.heap++os)[j]? =w.heap[j]?
  rw[Array.getElem?_append_left A]⟩
theorem zF (m:Nat) (w:World) (hm:m≤9223372036854775807) (hN:Need w):
 Calls Tryz.prog 124 #[.int .i64 (m:Int)] w fun e w'=>e=.returned (.string (str (aJ m)))∧Below w.heap.size w w':=by
 refine(Any.strconv_Itoa Tryz.KW (m:Int) (by omega) (by omega) w hN.2.2).mono ?_;rintro e w' ⟨rfl,k,os,rfl⟩;rw[G4];exact⟨rfl,BS w k os⟩
theorem yi (m:Nat) (w:World) (h0:0<m) (hm:m≤1000000000000000) (hN:Need w):
 Calls Tryz.prog 156 #[.int .i64 (m:Int)] w fun e w'=>e=.returned (.string (str (aJ (gT m))))∧Below w.heap.size w w':=by
 have I:=Qh (zQ m h0);have f:=Qh hN;have W:∀n,n<1000000000000000000→(aJ n).length≤18:=fun n h=>lI n 18 (by omega) h
 have Z:=Qh W;have R:=Qh (fF m);have r:(m:Int)≤1000000000000000:=by omega
 have O:=Qh hm;clear hN W hm h0
 go_enter Tryz.func156,Tryz.ntmps156
 go_wp2_with fail
 go_loopw [3] (fun s wr=>∃(S:ByteArray),s=.string S∧S.size≤18∧Hid (S=str []∨S=str (aJ m)∨(S=str (aJ (m+(aJ m).length))∧(aJ (m+(aJ m).length)).length≠(aJ m).length))∧Hid (Below w.heap.size w wr)) (fun s _=>match s with|.string b=>(if b.size=0 then 2 else if b.size=(aJ m).length then 1 else 0)|_=>0)
 case atStart=>exact⟨str [],rfl,by rw[aq];simp,Qh (.inl rfl),Qh (Below.refl _ _)⟩
 case round=>
  obtain⟨S,rfl,l,Y,E⟩:=hrel;obtain⟨d,hd⟩:∃d,S.size=d:=⟨_,rfl⟩
  have o:(d:Int)≤18:=by omega
  obtain⟨X,H⟩:∃X,X=str (aJ (m+d)):=⟨_,rfl⟩
  have J:=Qh H
  have N:Hid (Calls Tryz.prog 124 #[.int .i64 ((m:Int)+(d:Int))] wr fun e w'=>e=.returned (.string X)∧Below wr.heap.size wr w'):=Qh (by
   have:=zF (m+d) wr (by have:=O.out;omega) (f.out.below E.out);rw[H]
   rwa [show((m+d:Nat):Int)=(m:Int)+(d:Int) by omega]at this)
  have L:Hid (X.size=(aJ (m+d)).length):=Qh (by rw[H,aq]);have g:Hid (X.size≤18):=Qh (by rw[L.out];exact Z.out _ (by have:=O.out;omega));have U:=Qh hd;clear H l
  by_cases G:X.size=d
  ·have p:((X.size:Int)==(d:Int))=true:=by rw[G];simp
   have c:Hid (X=str (aJ (gT m))):=Qh (by
    have B:=L.out;have t:=R.out;have A:=U.out;rw[J.out]
    congr 2
    rcases Y.out with e|e|⟨e,ne⟩
    ·rw[e,aq]at A
     obtain rfl:d=0:=by simpa using A.symm
     rw[Nat.add_zero]at B;omega
    ·rw[e,aq]at A
     rw[G,←A]at B;rcases I.out with⟨l1,l2⟩|⟨l1,l2,l3⟩
     ·rw[l1,←A]
     ·exact absurd B.symm l2
    ·rw[e,aq]at A
     rcases I.out with⟨l1,l2⟩|⟨l1,l2,l3⟩
     ·exact absurd l2 ne
     ·rw[l1,←A])
   clear G;go_wp2_with fail;refine N.out.mono ?_;rintro e u ⟨rfl,D⟩;have M:=Qh (E.out.trans (D.mono E.out.size));clear D;go_wp2;go_ret;exact⟨by rw[c.out];rfl,M.out⟩
  ·have p:((X.size:Int)==(d:Int))=false:=by rw[beq_eq_false_iff_ne];omega
   have T:=Qh G
   have V:Hid (S=str []∧X=str (aJ m)∨S=str (aJ m)∧(X=str (aJ (m+(aJ m).length))∧(aJ (m+(aJ m).length)).length≠(aJ m).length)):=Qh (by
    have B:=L.out;have A:=U.out;rcases Y.out with e|e|⟨e,ne⟩
    ·rw[e,aq]at A
     obtain rfl:d=0:=by simpa using A.symm
     exact .inl ⟨e,by rw[J.out,Nat.add_zero]⟩
    ·rw[e,aq]at A
     refine .inr ⟨e,by rw[J.out,A],?_⟩;rw[A,←B];exact T.out
    ·rw[e,aq]at A
     rcases I.out with⟨l1,l2⟩|⟨l1,l2,l3⟩
     ·exact absurd l2 ne
     ·rw[A]at l3
      exact absurd (B.trans l3) T.out)
   clear G;go_wp2_with fail;refine N.out.mono ?_;rintro e u ⟨rfl,D⟩;have M:=Qh (E.out.trans (D.mono E.out.size));clear D;go_wp2_with fail;go_roundw
   case rel=>exact⟨X,rfl,g.out,Qh (by
    rcases V.out with⟨_,e⟩|⟨_,e⟩
    ·exact .inr (.inl e)
    ·exact .inr (.inr e)),M⟩
   case measure=>
    have t:=R.out;rcases V.out with⟨e1,e2⟩|⟨e1,e2,ne⟩
    ·rw[e1,e2]
     simp only[aq,List.length_nil,if_true];rw[if_neg (by omega)];omega
    ·have q:=lJ (show m≤m+(aJ m).length by omega)
     rw[e1,e2];simp only[aq,if_true];rw[if_neg (by omega),if_neg ne,if_neg (by omega)];omega
end Rec
namespace Rec
open Go.ChangeShapes Go.WideShapes Go.ChangeAt Go.RowKit Go.Shelf Base bJ cn Path qd Go.Lib
theorem Ib (l:List UInt8) (w:World) (h1:1≤l.length) (h2:l.length≤7) (hN:Need w):
 Calls Tryz.prog 207 #[.string (str l),.int .i64 10,.int .i64 64] w fun e w'=>
  ∃(u:Nat) (x:Value),e=.returned (.tuple #[.int .u64 (u:Int),x])∧Below w.heap.size w w'∧
   ((l.all bk=true∧u=gI l∧x=.nilIface)∨(l.all bk=false∧u=0∧∃t y,x=.iface t y)):=by
 have A:=Hz l h1 (by omega);have hs:(str l).size=l.length:=aq l
 cases hd:l.all bk with
 |true=>
  rw[hd,if_pos rfl]at A;refine(Any.strconv_ParseUint_10_at64_ok Tryz.KX (str l) (by omega) (gI l) (by rw[bg];exact A) w).mono ?_;rintro e w' ⟨rfl,hw⟩;refine⟨gI l,.nilIface,rfl,?_,.inl ⟨rfl,rfl,rfl⟩⟩;rcases hw with rfl|rfl
  ·exact Below.refl _ _
  ·exact wS w _ _
 |false=>
  rw[hd,if_neg (by simp)]at A;obtain⟨E,p,D⟩:=hN.2.1;refine(Any.strconv_ParseUint_10_at64_syntax_var Tryz.KX (str l) (by omega) (by rw[bg];exact A) E p w D).mono ?_;rintro e w' ⟨N,rfl,_,_,B⟩;exact⟨0,_,rfl,B,.inr ⟨rfl,rfl,_,_,rfl⟩⟩
theorem tN (p:Option Addr) (n c:Nat) (bs:List UInt8) (w:World) (hn:bs.length=n) (hm:n≤1000000000000) (h:cB w p n bs) (hN:Need w):
 Calls Tryz.prog 180 #[.slice p n c] w fun e w'=>e=.returned (uk (lY bs))∧Below w.heap.size w w':=by
 have mixed:Tryz.prog.follows .mixedOrders=true:=by kernel_rfl
 by_cases T:1≤n∧n≤7
 ·have hi:Jd (n:Int) 1 7=true:=fK (by omega) (by omega)
  obtain⟨b,o,rfl,hc⟩:=h (by omega);have L:=hc 0 (by omega);rw[Nat.add_zero]at L;obtain⟨C,B⟩:∃C:Nat,(bs.getD 0 0).toNat=C:=⟨_,rfl⟩
  rw[B]at L;have U:(0:Int)<(n:Int):=by omega
  by_cases A:bs.getD 0 0=48
  ·have e:lY bs=none:=by unfold lY;rw[if_pos (.inr (.inr A))]
   rw[e];have R:((C:Int)==48)=true:=by rw[←B,A];rfl
   clear h hN hc A B e hn
   go_enter Tryz.func180,Tryz.ntmps180
   go_wp2_with (go_at_call 152;refine(kL _ _ _ _).mono ?_;rw[hi];rintro e N ⟨rfl,rfl⟩)
   go_ret2;exact⟨rfl,Below.refl _ _⟩
  ·have R:((C:Int)==48)=false:=by
    rw[beq_eq_false_iff_ne];intro e;refine A (UInt8.toNat_inj.1 ?_);rw[B];show C=48;omega
   have O:=Qh (Ib bs w (by omega) (by omega) hN);have cs:=cD h hn 26 5 9 Tryz.underlying26 Tryz.underlying5 Tryz.underlying9 c
   have M:Hid (lY bs=if bs.all bk then some (gI bs)else none):=Qh (by
    unfold lY
    rw[if_neg (by
     rintro(e|e|e)
     ·omega
     ·omega
     ·exact A e)])
   have I:Hid (bs.all bk=true→gI bs<10000000):=Qh (fun hd=>by
    have V:=Fs bs (List.all_eq_true.1 hd);have W:10 ^ bs.length≤10 ^ 7:=Nat.pow_le_pow_right (by omega) (by omega);have X:(10:Nat) ^ 7=10000000:=by decide
    omega)
   clear h hN hc A B hn
   go_enter Tryz.func180,Tryz.ntmps180
   go_wp2_with (go_at_call 152;refine(kL _ _ _ _).mono ?_;rw[hi];rintro e N ⟨rfl,rfl⟩)
   rw[show(⟨bs.toArray⟩:ByteArray)=str bs from rfl]
   go_at_call 207
   refine O.out.mono ?_;rintro e Z ⟨u,x,rfl,G,(⟨hd,rfl,rfl⟩|⟨hd,rfl,t,y,rfl⟩)⟩
   ·have hu:=I.out hd
    have E:Hid (lY bs=some (gI bs)):=Qh (by rw[M.out,hd];rfl);obtain⟨u,D⟩:∃u,gI bs=u:=⟨_,rfl⟩
    rw[D]at hu E⊢;have Y:IntKind.i64.wrap (u:Int)=(u:Int):=by rw[IntKind.wrap_i64];omega
    have H:=Qh G;clear G hd D cs I;go_wp2_with fail
    go_quiet (fail)
    have J:=Qh (below_drewN H.out nq);go_wp2;go_ret2;rw[E.out];exact⟨rfl,J.out⟩
   ·have E:Hid (lY bs=none):=Qh (by rw[M.out,hd];rfl)
    have H:=Qh G;clear G hd cs I;go_wp2_with fail
    go_quiet (fail)
    have J:=Qh (below_drewN H.out nq);go_wp2;go_ret2;rw[E.out];exact⟨rfl,J.out⟩
 ·have hi:Jd (n:Int) 1 7=false:=iP (by omega)
  have e:lY bs=none:=by unfold lY;rw[if_pos (by omega)]
  rw[e];clear h hN e hn T
  go_enter Tryz.func180,Tryz.ntmps180
  go_wp2_with (go_at_call 152;refine(kL _ _ _ _).mono ?_;rw[hi];rintro e N ⟨rfl,rfl⟩)
  go_ret2;exact⟨rfl,Below.refl _ _⟩
theorem Hl (w:World) (t:TypeId) (x:Int):(w.alloc (.cells #[.int .u8 x] t (1,2))).cell? ⟨w.heap.size,0,none⟩=some (.int .u8 x):=by
 rw[World.cell?_alloc_mark];rfl
theorem vq (b o n c b2:Nat) (bs:List UInt8) (w:World) (hn:bs.length=n) (hc:n≤c) (hm:n≤1000000000000) (h:cB w (some ⟨b,o,none⟩) n bs) (h2:w.cell? ⟨b2,0,none⟩=some (.int .u8 32)):
 Calls Tryz.prog 109 #[.slice (some ⟨b,o,none⟩) n c,.slice (some ⟨b2,0,none⟩) 1 1] w fun e w'=>e=.returned (Lib.cutV (some ⟨b,o,none⟩) n c 1 (Lib.indexByte bs 32))∧∃q,w'=w.drewN q:=by
 have B:bytesOf (nums bs)=bs:=iA bs
 have A:=Any.bytes_Index_one Tryz.jz.index b o n c b2 0 1 (nums bs) 32 w (by rw[fw,hn]) (fun i hi=>by
  obtain⟨G,I,he,hcell⟩:=h (by omega)
  cases he
  rw[hcell i hi]
  simp[nums,List.getD,Qd (show i<bs.length by omega)]) h2
 rw[B,show(32:Int).toNat.toUInt8=32 from rfl]at A
 have D:0≤Lib.indexByte bs 32→Lib.indexByte bs 32+(1:Nat)≤n:=fun H=>by
  obtain⟨k,hk⟩:∃k:Nat,Lib.indexByte bs 32=k:=⟨(Lib.indexByte bs 32).toNat,by omega⟩
  have:=(Lib.indexByte_some hk).1;have E:=(List.getElem?_eq_some_iff.1 this).1;omega
 exact Any.bytes_Cut_of Tryz.jz (some ⟨b,o,none⟩) (some ⟨b2,0,none⟩) n c 1 1 (Lib.indexByte bs 32) w hc (Lib.indexByte_ge _ _) D (by omega) (A.mono fun e w' he=>⟨he.1,0,he.2⟩)
theorem Nb (b o n c b2:Nat) (bs:List UInt8) (w:World) (hn:bs.length=n) (hc:n≤c) (hm:n≤1000000000000) (h:cB w (some ⟨b,o,none⟩) n bs) (h2:w.cell? ⟨b2,0,none⟩=some (.int .u8 32)) (hi:Lib.indexByte bs 32<0):
 Calls Tryz.prog 109 #[.slice (some ⟨b,o,none⟩) n c,.slice (some ⟨b2,0,none⟩) 1 1] w fun e w'=>e=.returned (.tuple #[.slice (some ⟨b,o,none⟩) n c,.slice none 0 0,.bool false])∧∃q,w'=w.drewN q:=by
 have:=vq b o n c b2 bs w hn hc hm h h2;unfold Lib.cutV at this
 rwa [if_neg (by omega)]at this
theorem rC (b o n c b2 i r:Nat) (bs:List UInt8) (w:World) (hn:bs.length=n) (hc:n≤c) (hm:n≤1000000000000) (h:cB w (some ⟨b,o,none⟩) n bs) (h2:w.cell? ⟨b2,0,none⟩=some (.int .u8 32)) (hi:Lib.indexByte bs 32=(i:Int)) (hr:n=i+1+r):
 Calls Tryz.prog 109 #[.slice (some ⟨b,o,none⟩) n c,.slice (some ⟨b2,0,none⟩) 1 1] w fun e w'=>∃q2 c2,e=.returned (.tuple #[.slice (some ⟨b,o,none⟩) i c,.slice q2 r c2,.bool true])∧r≤c2∧cB w' q2 r (bs.drop (i+1))∧∃q,w'=w.drewN q:=by
 refine(vq b o n c b2 bs w hn hc hm h h2).mono ?_;rintro e w' ⟨rfl,q,rfl⟩;unfold Lib.cutV;rw[if_pos (by omega),hi,Int.toNat_natCast];have hd:=h.drop (k:=i+1) (c:=c) (by omega) hc hn;rw[show n - (i+1)=r by omega]at hd;refine⟨_,c - (i+1),?_,by omega,hd.below (below_drewN (Below.refl _ _) q),q,rfl⟩;unfold Lib.fromV;rw[show n - (i+1)=r by omega]
def nG (r:Option (List UInt8 × Nat)):Value:=match r with
 |some (t,m)=>.tuple #[.string (str t),.int .i64 (m:Int),.bool true]
 |none=>.tuple #[.string ⟨#[]⟩,.int .i64 0,.bool false]
theorem Dy (b o n c:Nat) (bs:List UInt8) (w:World) (hn:bs.length=n) (hc:n≤c) (hm:n≤1000000000000) (h:cB w (some ⟨b,o,none⟩) n bs) (hN:Need w):
 Calls Tryz.prog 140 #[.slice (some ⟨b,o,none⟩) n c] w fun e w'=>e=.returned (nG (ov bs))∧Below w.heap.size w w':=by
 have C5:=Lib.run_convert_bytes_const (P:=Tryz.prog) w 26 5 #[.int .u8 32] 1 1 Tryz.underlying26 Tryz.underlying5;obtain⟨wm,p⟩:∃wm,w.alloc (.cells #[.int .u8 32] 5 (1,2))=wm:=⟨_,rfl⟩
 have nb:Below w.heap.size w wm:=by rw[←p];exact(Below.refl _ _).alloc (Qk _) _
 have D:=Qh nb;have V:=Qh (by rw[←p];exact Hl w 5 32:wm.cell? ⟨w.heap.size,0,none⟩=some (.int .u8 32));have H:=Qh h;have l:=Qh hN;have J:=Qh hn;rw[show((#[.int .u8 32]:Array Value).size,(#[.int .u8 32]:Array Value).size+1)=(1,2)from rfl,p]at C5;clear nb h hN p
 by_cases X:Lib.indexByte bs 32<0
 ·have e:ov bs=none:=by unfold ov;rw[if_pos X]
  rw[e];have G:=Qh X;clear e X
  go_enter Tryz.func140,Tryz.ntmps140
  go_wp2_with fail
  refine(Nb b o n c w.heap.size bs wm J.out hc hm (H.out.below D.out) V.out G.out).mono ?_;rintro e u ⟨rfl,q,rfl⟩;have A:=Qh (below_drewN D.out q);go_wp2
  go_ret3
  exact⟨rfl,A.out⟩
 ·obtain⟨i,hi⟩:∃i:Nat,Lib.indexByte bs 32=i:=⟨(Lib.indexByte bs 32).toNat,by omega⟩
  obtain⟨VB,_,_⟩:=sx bs i hi;obtain⟨r,Z⟩:∃r,n=i+1+r:=⟨n - (i+1),by omega⟩
  have Sm:(bs.take i).length=i:=by rw[Qg];omega
  have E:Hid (ov bs=match lY (bs.take i)with
   |none=>none
   |some m=>if m<i+4∨bs.length<m∨bs.getD (m - 1) 0≠10 then none else some ((bs.drop (i+1)).take (m - 1 - (i+1)),m)):=Qh (by
    unfold ov;rw[if_neg X,hi,Int.toNat_natCast]
    all_goals (cases lY (bs.take i)<;>rfl))
  have G:=Qh (And.intro hi Z);have Va:=Qh Sm;have aa9:(i:Int)≤1000000000000:=by omega
  have ab8:(r:Int)≤1000000000000:=by omega
  have O:Hid (i≤1000000000000∧i≤n):=Qh (by omega);clear hi X Sm VB
  cases I:lY (bs.take i)with
  |none=>
   rw[I]at E
   have W:Hid (∀w,cB w (some ⟨b,o,none⟩) i (bs.take i)→Need w→Calls Tryz.prog 180 #[.slice (some ⟨b,o,none⟩) i c] w fun e w'=>e=.returned (.tuple #[.int .i64 0,.bool false])∧Below w.heap.size w w'):=Qh (fun w h1 h2=>by
    have:=tN (some ⟨b,o,none⟩) i c (bs.take i) w Va.out O.out.1 h1 h2;rw[I]at this
    exact this)
   rw[E.out];clear I E Z
   go_enter Tryz.func140,Tryz.ntmps140
   go_wp2_with fail
   refine(rC b o n c w.heap.size i r bs wm J.out hc hm (H.out.below D.out) V.out G.out.1 G.out.2).mono ?_;rintro e u ⟨q2,c2,rfl,_,_,q,rfl⟩;have A:=Qh (below_drewN D.out q);go_wp2_with fail;refine(W.out _ ((H.out.take O.out.2).below A.out) (l.out.below A.out)).mono ?_;rintro e w2 ⟨rfl,B⟩;have L:=Qh (A.out.trans (B.mono A.out.size));clear B;go_wp2
   go_ret3
   exact⟨rfl,L.out⟩
  |some m=>
   have rJ:=(vV I).2.2.2.2.2;rw[I]at E
   have W:Hid (∀w,cB w (some ⟨b,o,none⟩) i (bs.take i)→Need w→Calls Tryz.prog 180 #[.slice (some ⟨b,o,none⟩) i c] w fun e w'=>e=.returned (.tuple #[.int .i64 (m:Int),.bool true])∧Below w.heap.size w w'):=Qh (fun w h1 h2=>by
    have:=tN (some ⟨b,o,none⟩) i c (bs.take i) w Va.out O.out.1 h1 h2;rw[I]at this
    exact this)
   have ab3:(m:Int)<10000000:=by omega
   by_cases N:m<i+4∨n<m
   ·have T:Jd ((m:Int) - (i:Int) - 1) 3 (r:Int)=false:=iP (by omega)
    have U:Hid (ov bs=none):=Qh (by
     rw[E.out];simp only
     rw[if_pos (by rw[J.out];rcases N with h|h;exact .inl h;exact .inr (.inl h))])
    rw[U.out];have t:=Qh T;clear I E Z rJ T N
    go_enter Tryz.func140,Tryz.ntmps140
    go_wp2_with fail
    refine(rC b o n c w.heap.size i r bs wm J.out hc hm (H.out.below D.out) V.out G.out.1 G.out.2).mono ?_;rintro e u ⟨q2,c2,rfl,_,_,q,rfl⟩;have A:=Qh (below_drewN D.out q);go_wp2_with fail;refine(W.out _ ((H.out.take O.out.2).below A.out) (l.out.below A.out)).mono ?_;rintro e w2 ⟨rfl,B⟩;have L:=Qh (A.out.trans (B.mono A.out.size));clear B;go_wp2_with fail;refine(kL _ _ _ _).mono ?_;rw[t.out];rintro e w3 ⟨rfl,rfl⟩;go_wp2
    go_ret3
    exact⟨rfl,L.out⟩
   ·obtain⟨v,hv⟩:∃v,m=i+2+v:=⟨m - (i+2),by omega⟩
    have T:Jd ((v:Int)+1) 3 (r:Int)=true:=fK (by omega) (by omega);have t:=Qh T;have bh:(m:Int) - (i:Int) - 1=(v:Int)+1:=by omega
    have hvr:(v:Int)<(r:Int):=by omega
    have R:Hid (v<r∧v≤r):=Qh (by omega);obtain⟨C,Y⟩:∃C:Nat,(bs.getD (m - 1) 0).toNat=C:=⟨_,rfl⟩
    have HC:Hid (((bs.drop (i+1)).getD v 0).toNat=C):=Qh (by
     rw[←Y,show m - 1=i+1+v by omega]
     simp[List.getD])
    have y:Hid ((bs.drop (i+1)).length=r):=Qh (by rw[Qe];omega)
    by_cases M:bs.getD (m - 1) 0=10
    ·have hb:((C:Int) != 10)=false:=by rw[←Y,M];rfl
     have U:Hid (ov bs=some ((bs.drop (i+1)).take v,m)):=Qh (by
      rw[E.out];simp only
      rw[if_neg (by
       rw[J.out];rintro(h|h|h)
       ·exact N (.inl h)
       ·exact N (.inr h)
       ·exact h M),show m - 1 - (i+1)=v by omega])
     rw[U.out];clear I E Z rJ T N Y M hv
     go_enter Tryz.func140,Tryz.ntmps140
     go_wp2_with fail
     refine(rC b o n c w.heap.size i r bs wm J.out hc hm (H.out.below D.out) V.out G.out.1 G.out.2).mono ?_;rintro e u ⟨q2,c2,rfl,ir,d,q,rfl⟩;have A:=Qh (below_drewN D.out q);have z:=Qh d;clear d;go_wp2_with fail;refine(W.out _ ((H.out.take O.out.2).below A.out) (l.out.below A.out)).mono ?_;rintro e w2 ⟨rfl,B⟩;have L:=Qh (A.out.trans (B.mono A.out.size));have g:=Qh (z.out.below B);clear B;obtain⟨b3,o3,rfl,f⟩:=g.out (by have:=R.out;omega);have g0:=f v R.out.1;rw[HC.out]at g0;have cs:=cD (g.out.take R.out.2) (by rw[Qg,y.out];have:=R.out;omega) 26 5 9 Tryz.underlying26 Tryz.underlying5 Tryz.underlying9 c2;have HE3:Hid ((⟨((bs.drop (i+1)).take v).toArray⟩:ByteArray)=str ((bs.drop (i+1)).take v)):=Qh rfl;clear f;go_wp2_with fail;refine(kL _ _ _ _).mono ?_;rw[t.out];rintro e w3 ⟨rfl,rfl⟩;go_wp2
     go_ret3
     exact⟨rfl,L.out⟩
    ·have hb:((C:Int) != 10)=true:=by
      have:¬C=10:=fun e=>M (UInt8.toNat_inj.1 (by rw[Y,e];rfl))
      simp;omega
     have U:Hid (ov bs=none):=Qh (by
      rw[E.out];simp only
      rw[if_pos (.inr (.inr M))])
     rw[U.out];clear I E Z rJ T N Y M hv
     go_enter Tryz.func140,Tryz.ntmps140
     go_wp2_with fail
     refine(rC b o n c w.heap.size i r bs wm J.out hc hm (H.out.below D.out) V.out G.out.1 G.out.2).mono ?_;rintro e u ⟨q2,c2,rfl,ir,d,q,rfl⟩;have A:=Qh (below_drewN D.out q);have z:=Qh d;clear d;go_wp2_with fail;refine(W.out _ ((H.out.take O.out.2).below A.out) (l.out.below A.out)).mono ?_;rintro e w2 ⟨rfl,B⟩;have L:=Qh (A.out.trans (B.mono A.out.size));have g:=Qh (z.out.below B);clear B;obtain⟨b3,o3,rfl,f⟩:=g.out (by have:=R.out;omega);have g0:=f v R.out.1;rw[HC.out]at g0;clear f;go_wp2_with fail;refine(kL _ _ _ _).mono ?_;rw[t.out];rintro e w3 ⟨rfl,rfl⟩;go_wp2
     go_ret3
     exact⟨rfl,L.out⟩
end Rec
namespace Mem
open Go.ChangeShapes Go.WideShapes Go.ChangeAt Go.RowKit Hp Head Path Rec Attr Go.Lib
variable {m:av}
theorem IG (h:dh m):m.target.length≤200:=by
 rcases h.kind with k|k|k|k
 ·rw[h.none (.inl k)];simp
 ·exact((oo 9 6 (by decide) (by decide) _ _).1 (h.QE k)).2.2.2.2.2
 ·have:=h.sym k
  unfold cY at this;split at this
  ·cases this
  ·split at this
   ·cases this
   ·omega
 ·rw[h.none (.inr k)];simp
theorem wf_i64 (h0:0≤n) (h1:n≤9223372036854775807):(Lit.int .i64 n).wf=true:=by
 have A:IntKind.i64.min=-9223372036854775808:=rfl;have B:IntKind.i64.max=9223372036854775807:=rfl;simp only[Lit.wf,Bool.and_eq_true,decide_eq_true_eq];omega
theorem Ki (h:dh m):∀i,(Lit.int .i64 (jV (bj m) i)).wf=true:=by
 have h1:=h.mode;have A:=h.uid;have B:=h.gid;have D:=h.time;have E:=h.body;intro i;unfold jV bj;split
 ·exact wf_i64 (n:=m.mode) h1.1 (by omega)
 ·simp only;split<;>exact wf_i64 (by omega) (by omega)
 ·simp only;split<;>exact wf_i64 (by omega) (by omega)
 ·exact wf_i64 (n:=(m.body.length:Int)) (by omega) (by omega)
 ·simp only;split<;>exact wf_i64 (by omega) (by omega)
 ·exact wf_i64 (by omega) (by omega)
theorem zt (h:dh m):(bj m).name.length≤140737488351232∧(bj m).link.length≤140737488351232:=by
 have h1:=h.wC;have A:=IG h;unfold bj;constructor
 ·simp only;split
  ·decide
  ·omega
 ·simp only;split
  ·decide
  ·omega
theorem Ob {n:Nat} (h:n≤1048576):∀i,(Lit.int .i64 (jV (yg n) i)).wf=true:=by
 intro i;unfold jV yg;split
 ·exact wf_i64 (n:=0) (by omega) (by omega)
 ·exact wf_i64 (n:=0) (by omega) (by omega)
 ·exact wf_i64 (n:=0) (by omega) (by omega)
 ·exact wf_i64 (n:=(n:Int)) (by omega) (by omega)
 ·exact wf_i64 (n:=0) (by omega) (by omega)
 ·exact wf_i64 (by omega) (by omega)
end Mem
end Go.Proofs.YtdhibldkldlfpaaGreatDoor
