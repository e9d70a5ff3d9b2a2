/- Merged. -/
import Derived.Test.YtdhibldkldlfpaaGreatDoorEmitOnceX24
import Derived.Lib.ParseIntB
import Derived.Lib.AtoiTie
import Derived.Lib.ItoaNum
import Derived.Test.YtdhibldkldlfpaaGreatDoorEmitOnceX19
import Derived.Lib.LaidTab
import Derived.Test.YtdhibldkldlfpaaGreatDoorEmitOnceX6
import Derived.Test.YtdhibldkldlfpaaGreatDoorEmitOnceX10
namespace Go.Proofs.YtdhibldkldlfpaaGreatDoor
namespace Attr
end Attr
namespace Mem
end Mem
set_option linter.unusedVariables false
set_option maxHeartbeats 1000000
set_option maxRecDepth 100000
variable {n:Int} {b l v:List UInt8} {k:Nat}
namespace Rec
open Go.Lib Path
theorem IC (u:Nat):decDigits u=aG u:=by
 induction u using Nat.strongRecOn with
 |ind u ih=>
  by_cases h:u<10
  ·rw[decDigits,dif_pos h,dY h,wD,Nat.mod_eq_of_lt h]
  ·rw[decDigits,dif_neg h,fI h,ih _ (by omega)]
   rfl
theorem FQ (u:Nat):itoa (u:Int)=aG u:=by
 unfold itoa;rw[if_neg (by omega),Int.toNat_natCast,IC]
theorem Ch (l:List UInt8):∀acc k,acc<10 ^ k→k+l.length≤18→parseUintM (2 ^ 64 - 1) acc l=if l.all aW then .ok (l.foldl (fun n b=>n*10+(b.toNat - 48)) acc)else NumEnd.ofOption none:=by
 induction l with
 |nil=>intro acc k _ _;rfl
 |cons c r ih=>
  intro acc k h1 B;rw[List.length_cons]at B;have D:10 ^ k≤10 ^ 17:=Nat.pow_le_pow_right (by omega) (by omega);have A:(10:Nat) ^ 17=100000000000000000:=by decide
  rw[A]at D;rw[parseUintM,List.all_cons,List.foldl_cons]
  by_cases hc:48≤c.toNat∧c.toNat≤57
  ·have hd:aW c=true:=by simp[aW,hc]
   rw[if_pos hc,if_neg (by omega),if_neg (by have:(2:Nat) ^ 64 - 1=18446744073709551615:=by decide
                                             omega),hd,Bool.true_and]
   exact ih _ (k+1) (by rw[Nat.pow_succ];omega) (by omega)
  ·have hd:aW c=false:=by simp[aW];omega
   rw[if_neg hc,hd];rfl
theorem Gk (l:List UInt8) (h1:1≤l.length) (h2:l.length≤18):parseUintB 64 l=if l.all aW then .ok (gh l)else NumEnd.ofOption none:=by
 unfold parseUintB;rw[if_neg (by rintro rfl;simp at h1),Ch l 0 0 (by decide) (by omega)];rfl
def lE (l:List UInt8):Option Nat:=if l.length<1∨7<l.length∨l.getD 0 0=48 then none else if l.all aW then some (gh l)else none
theorem vf {m:Nat} (h:lE l=some m):1≤l.length∧l.length≤7∧l.getD 0 0≠48∧(∀b∈l,aW b=true)∧m=gh l∧m<10000000:=by
 unfold lE at h;split at h
 ·cases h
 ·next h1=>
  split at h
  ·next B=>
   cases h
   have A:=List.all_eq_true.1 B;refine⟨by omega,by omega,fun e=>h1 (.inr (.inr e)),A,rfl,?_⟩;have D:=D9 l A;have E:10 ^ l.length≤10 ^ 7:=Nat.pow_le_pow_right (by omega) (by omega);have G:(10:Nat) ^ 7=10000000:=by decide
   omega
  ·cases h
def nM (l:List UInt8):Option (List UInt8 × Nat):=
 if indexByte l 32<0 then none
 else match lE (l.take (indexByte l 32).toNat)with
 |none=>none
 |some m=>
  if m<(indexByte l 32).toNat+4∨l.length<m∨l.getD (m - 1) 0≠10 then none
  else some ((l.drop ((indexByte l 32).toNat+1)).take (m - 1 - ((indexByte l 32).toNat+1)),m)
theorem rL (l:List UInt8) (i:Nat) (hi:indexByte l 32=i):i<l.length∧l.getD i 0=32∧(∀j,j<i→l.getD j 0≠32):=by
 have h1:=Lib.indexByte_some hi;have D:=(List.getElem?_eq_some_iff.1 h1.1).1;refine⟨D,by rw[List.getD,h1.1];rfl,fun j E e=>?_⟩;have A:=h1.2 j E;have B:j<l.length:=by omega
 rw[List.getD,Qd B]at e;rw[Qd B]at A;exact A (by rw[←e];rfl)
theorem xt (R T:Int) (l:List UInt8):cW R T l=match nM l with
 |none=>.error R
 |some (t,m)=>if indexByte t 61<1 then .error R else if aS t=false then .error T else .ok (t.take (indexByte t 61).toNat,t.drop ((indexByte t 61).toNat+1),m):=by
 obtain⟨c,W⟩:=Fg l;unfold nM
 by_cases J:indexByte l 32<0
 ·rw[if_pos J]
  simp only;unfold cW;rw[if_pos];have d:indexByte l 32=-1:=by have:=Lib.indexByte_ge l 32;omega
  by_cases hl:fJ l=l.length
  ·exact .inr (.inr (.inr (.inl hl)))
  ·refine .inr (.inr (.inr (.inr fun e=>?_)))
   have hc:l.contains 32=false:=by rw[←cr.pe,decide_eq_false (by omega)]
   exact cr.FD hc (fJ l) (by omega) e
 ·rw[if_neg J]
  obtain⟨i,hi⟩:∃i:Nat,indexByte l 32=i:=⟨(indexByte l 32).toNat,by omega⟩
  obtain⟨Z,E,M⟩:=rL l i hi;rw[hi,Int.toNat_natCast];have I:(l.take i).length=i:=by rw[Qg];omega
  have D:∀j,j<i→(l.take i).getD j 0=l.getD j 0:=fun j A=>by
   rw[List.getD,List.getD,List.getElem?_take,if_pos A]
  cases B:lE (l.take i)with
  |none=>
   simp only;unfold cW;rw[if_pos]
   by_cases H:(l.take i).all aW=true
   ·have G:fJ l=i:=Dj l i (by omega) (fun j A=>by
     rw[←D j A];have:j<(l.take i).length:=by omega
     rw[List.getD,Qd this]
     exact List.all_eq_true.1 H _ (List.getElem_mem this)) (.inr (by rw[E];decide))
    unfold lE at B;rw[H,if_pos rfl,I]at B
    by_cases hc:i<1∨7<i∨(l.take i).getD 0 0=48
    ·rw[G]
     rcases hc with h|h|h
     ·exact .inl h
     ·exact .inr (.inl h)
     ·by_cases U:i<1
      ·exact .inl U
      ·rw[D 0 (by omega)]at h
       exact .inr (.inr (.inl h))
    ·rw[if_neg hc]at B
     cases B
   ·
    have V:fJ l<i:=by
     rcases Nat.lt_or_ge (fJ l) i with h|h
     ·exact h
     ·exfalso
      refine H (List.all_eq_true.2 fun b X=>W b ?_);obtain⟨j,A,rfl⟩:=List.mem_iff_getElem.1 X;rw[List.getElem_take];have L:j<(l.take (fJ l)).length:=by rw[Qg];omega
      have:(l.take (fJ l))[j]=l[j]'(by omega):=List.getElem_take;rw[←this];exact List.getElem_mem L
    exact .inr (.inr (.inr (.inr (M _ V))))
  |some m=>
   obtain⟨Y,n7,n48,N,O,_⟩:=vf B;rw[I]at Y n7;rw[D 0 (by omega)]at n48
   have G:fJ l=i:=Dj l i (by omega) (fun j A=>by
    rw[←D j A];have:j<(l.take i).length:=by omega
    rw[List.getD,Qd this]
    exact N _ (List.getElem_mem this)) (.inr (by rw[E];decide))
   simp only;unfold cW
   rw[G,←O,if_neg (by
    rintro(e|e|e|e|e)
    ·omega
    ·omega
    ·exact n48 e
    ·omega
    ·exact e E)]
   by_cases hc:m<i+4∨l.length<m∨l.getD (m - 1) 0≠10
   ·rw[if_pos hc,if_pos (by
     rcases hc with h|h|h
     ·exact .inr (.inl h)
     ·exact .inl h
     ·exact .inr (.inr h))]
   ·rw[if_neg hc,if_neg (by
     rintro(e|e|e)
     ·exact hc (.inr (.inl e))
     ·exact hc (.inl e)
     ·exact hc (.inr (.inr e)))]
theorem yV (m:Nat) (hm:0<m):gC m=m+(aG m).length∧(aG (m+(aG m).length)).length=(aG m).length∨
 gC m=m+(aG (m+(aG m).length)).length∧(aG (m+(aG m).length)).length≠(aG m).length∧(aG (m+(aG (m+(aG m).length)).length)).length=(aG (m+(aG m).length)).length:=by
 have he:=sy m hm
 by_cases h:(aG (m+(aG m).length)).length=(aG m).length
 ·left
  unfold gC;rw[if_pos h];exact⟨rfl,h⟩
 ·right
  have hl:gC m=m+(aG m).length+1:=by unfold gC;rw[if_neg h]
  rw[hl]at he;have h1:=kY (show m+(aG m).length≤m+(aG m).length+1 by omega);have B:=kY (show m≤m+(aG m).length by omega);have A:(aG (m+(aG m).length)).length=(aG m).length+1:=by omega
  refine⟨by rw[hl,A];omega,h,?_⟩;rw[A,←Nat.add_assoc];omega
end Rec
namespace Attr
open Go.Lib Rec Hp
variable {k:List UInt8}
abbrev bM:=List (List UInt8 × List UInt8)
def aD:bM→List UInt8→Option (List UInt8)
 |[],_=>none
 |r::rs,k=>match aD rs k with
  |some v=>some v
  |none=>if r.1=k then some r.2 else none
theorem mc (a b:bM) (k:List UInt8):aD (a++b) k=match aD b k with
 |some v=>some v
 |none=>aD a k:=by
 induction a with
 |nil=>cases h:aD b k<;>simp[aD,h]
 |cons r a ih=>
  rw[List.cons_append,aD,ih]
  cases h:aD b k with
  |some v=>rfl
  |none=>rfl
theorem BM (a:bM) (r:List UInt8 × List UInt8) (k:List UInt8):aD (a++[r]) k=if r.1=k then some r.2 else aD a k:=by
 rw[mc]
 by_cases h:r.1=k<;>simp[aD,h]
theorem sj {rs:bM} (h:∀r∈rs,r.1≠k):aD rs k=none:=by
 induction rs with
 |nil=>rfl
 |cons r rs ih=>
  rw[aD,ih fun x A=>h x (List.mem_cons_of_mem _ A)];simp[h r (List.mem_cons_self ..)]
theorem uV {rs:bM} (h:aD rs k=some v):∃r∈rs,r.1=k∧r.2=v:=by
 induction rs with
 |nil=>cases h
 |cons r rs ih=>
  rw[aD]at h
  cases hl:aD rs k with
  |some u=>
   rw[hl]at h ih;obtain⟨x,A,h1⟩:=ih h;exact⟨x,List.mem_cons_of_mem _ A,h1⟩
  |none=>
   rw[hl]at h
   by_cases hk:r.1=k
   ·simp only[hk,if_true]at h
    exact⟨r,List.mem_cons_self ..,hk,Option.some.inj h⟩
   ·simp[hk]at h
def dE (F:List UInt8→Option (List UInt8)) (own:bM) (k:List UInt8):List UInt8:=match aD own k with
 |some v=>v
 |none=>(F k).getD []
def ov:List UInt8→Option (List UInt8):=fun _=>none
def fr (F:List UInt8→Option (List UInt8)) (rs:bM):List UInt8→Option (List UInt8):=fun k=>match aD rs k with
 |some v=>some v
 |none=>F k
theorem uZ (F:List UInt8→Option (List UInt8)):fr F []=F:=rfl
theorem B4 (F:List UInt8→Option (List UInt8)) (rs:bM) (r:List UInt8 × List UInt8):fr F (rs++[r])=fun k=>if k=r.1 then some r.2 else fr F rs k:=by
 funext k
 unfold fr;rw[BM]
 by_cases h:k=r.1
 ·simp[h]
 ·have:¬r.1=k:=fun e=>h e.symm
  simp[h,this]
theorem B3 (F:List UInt8→Option (List UInt8)) (a b:bM):fr (fr F a) b=fr F (a++b):=by
 funext k
 unfold fr;rw[mc]
 cases aD b k<;>rfl
theorem sJ (rs:bM):fr ov rs=aD rs:=by
 funext k
 unfold fr ov
 cases aD rs k<;>rfl
def uf (l:List UInt8):Option Nat:=
 if 0≤indexByte l 46 then(if(l.drop ((indexByte l 46).toNat+1)).all aW then cJ (l.take (indexByte l 46).toNat)else none)else cJ l
def aF:Nat→List UInt8
 |0=>[117,105,100]|1=>[103,105,100]|2=>[109,116,105,109,101]|3=>[115,105,122,101]|4=>[112,97,116,104]|_=>[108,105,110,107,112,97,116,104]
def dI (time:Bool) (v:List UInt8) (old:Int):Option Int:=
 if v=[]then some old else Option.map Int.ofNat (if time then uf v else cJ v)
def aB (v old:List UInt8):List UInt8:=if v=[]then old else v
def ew (V:Nat→List UInt8) (h:ak):ak × Int:=
 match dI false (V 0) h.uid,dI false (V 1) h.gid,dI true (V 2) h.time,dI false (V 3) h.size with
 |some u,some g,some t,some s=>({h with name:=aB (V 4) h.name,link:=aB (V 5) h.link,uid:=u,gid:=g,time:=t,size:=s},0)
 |_,_,_,_=>(br,4)
def ch (F:List UInt8→Option (List UInt8)) (own:bM) (h:ak):ak × Int:=ew (fun i=>dE F own (aF i)) h
theorem ym (l:List UInt8) (h:∀b∈l,aW b=true):∀acc,decFrom acc l=some (l.foldl (fun n b=>n*10+(b.toNat - 48)) acc):=by
 induction l with
 |nil=>intro acc;rfl
 |cons c l ih=>
  intro acc;have hc:=h c (List.mem_cons_self ..);simp only[aW,decide_eq_true_eq]at hc
  have hd:digitVal c=some (c.toNat - 48):=by
   simp[digitVal];omega
  rw[decFrom,hd];exact ih (fun b A=>h b (List.mem_cons_of_mem _ A)) _
theorem Iu (l:List UInt8) (h0:l≠[]) (h:∀b∈l,aW b=true):atoi l=some (gh l:Int):=by
 cases l with
 |nil=>exact absurd rfl h0
 |cons c l=>
  have hc:=h c (List.mem_cons_self ..);simp only[aW,decide_eq_true_eq]at hc;have B:(c==45)=false:=beq_eq_false_iff_ne.2 fun e=>by subst e;exact absurd hc.1 (by decide)
  have A:(c==43)=false:=beq_eq_false_iff_ne.2 fun e=>by subst e;exact absurd hc.1 (by decide)
  unfold atoi;simp only[B,A,decNat,List.isEmpty_cons,ym _ h];rfl
theorem KA (l:List UInt8):(trimS l [48,49,50,51,52,53,54,55,56,57]=[])↔∀b∈l,aW b=true:=by
 have hd:∀b:UInt8,([48,49,50,51,52,53,54,55,56,57]:List UInt8).contains b=aW b:=fun b=>by
  rw[Bool.eq_iff_iff];simp only[List.contains_iff_mem,aW,decide_eq_true_eq,List.mem_cons,List.not_mem_nil,or_false];constructor
  ·rintro(rfl|rfl|rfl|rfl|rfl|rfl|rfl|rfl|rfl|rfl)<;>decide
  ·intro h
   have e:∀n:Nat,b.toNat=n→b=UInt8.ofNat n:=fun n H=>by rw[←H];simp
   have:b.toNat=48∨b.toNat=49∨b.toNat=50∨b.toNat=51∨b.toNat=52∨b.toNat=53∨b.toNat=54∨b.toNat=55∨b.toNat=56∨b.toNat=57:=by omega
   rcases this with h|h|h|h|h|h|h|h|h|h<;>(have:=e _ h;subst this;decide)
 have E:∀l:List UInt8,l.dropWhile (([48,49,50,51,52,53,54,55,56,57]:List UInt8).contains ·)=[]↔∀b∈l,aW b=true:=fun l=>by
  induction l with
  |nil=>simp
  |cons c l ih=>
   rw[List.dropWhile_cons]
   by_cases hc:aW c=true
   ·rw[if_pos (by rw[hd];exact hc),ih]
    simp[hc]
   ·rw[if_neg (by rw[hd];exact hc)]
    simp[hc]
 have G:∀l:List UInt8,(∃b∈l,aW b=false)→∃b∈trimRightS l [48,49,50,51,52,53,54,55,56,57],aW b=false:=fun l h=>by
  unfold trimRightS;obtain⟨b,A,B⟩:=h
  have:∀m:List UInt8,b∈m→b∈m.dropWhile (([48,49,50,51,52,53,54,55,56,57]:List UInt8).contains ·):=fun m=>by
   induction m with
   |nil=>intro h;exact h
   |cons c m ih=>
    intro hm;rw[List.dropWhile_cons]
    by_cases hc:aW c=true
    ·rw[if_pos (by rw[hd];exact hc)]
     rcases List.mem_cons.1 hm with rfl|hm
     ·rw[B]at hc;cases hc
     ·exact ih hm
    ·rw[if_neg (by rw[hd];exact hc)]
     exact hm
  exact⟨b,List.mem_reverse.2 (this _ (List.mem_reverse.2 A)),B⟩
 unfold trimS trimLeftS;rw[E];constructor
 ·intro h b A
  cases B:aW b with
  |true=>rfl
  |false=>
   obtain⟨c,hc,D⟩:=G l ⟨b,A,B⟩;rw[h c hc]at D
   cases D
 ·intro h b A
  refine h b ?_;unfold trimRightS at A;exact List.mem_reverse.1 ((List.dropWhile_suffix _).subset (List.mem_reverse.1 A))
end Attr
namespace Mem
open Go.Lib Fp Hp Path Rec Attr
variable {e:Int} {H L t body:List UInt8} {F:List UInt8→Option (List UInt8)} {V:Nat→List UInt8} {h:ak}
structure aq where
 path:List UInt8
 target:List UInt8
 kind:UInt8
 mode:Int
 uid:Int
 gid:Int
 time:Int
 body:List UInt8
deriving instance DecidableEq for aq
def fq (mode uid gid time:Int):Bool:=decide (0≤mode∧mode≤4095∧0≤uid∧uid<2147483648∧0≤gid∧gid<2147483648∧0≤time∧time≤1099511627776)
def eh (l:List UInt8):Bool:=decide (bC 9 6 l=(l,0))
def bk (m:aq):Bool:=
 eh m.path&&fq m.mode m.uid m.gid m.time&&decide (m.body.length≤1048576)&&(m.kind==48||m.body==[])&&
  (if m.kind=48∨m.kind=53 then m.target==[]else if m.kind=49 then eh m.target else if m.kind=50 then decide (dP 9 6 m.target=0)else false)
structure RS where
 out:List aq
 cF:bM
 own:bM
 name:Option (List UInt8)
 link:Option (List UInt8)
 dU:Bool
inductive Step where
 |fault (e:Int)
 |done
 |next (k:Nat) (s:RS)
def aP (n:Nat):Nat:=(n+511) / 512*512
def pN (l:List UInt8) (n:Int):Option (List UInt8 × Nat):=
 if 2097152<n∨l.length - 512<aP n.toNat then none else some ((l.drop 512).take n.toNat,512+aP n.toNat)
def iC (l:List UInt8) (h:ak) (s:RS):Step:=
 if(h.kind=120∧s.dU=true)∨(h.kind=76∧s.name.isSome=true)∨(h.kind=75∧s.link.isSome=true)then .fault 5
 else if 1048576<h.size then .fault 10
 else match pN l h.size with
  |none=>.fault 2
  |some (t,k)=>
   if h.kind=76 then .next k {s with name:=some (aC t)}
   else if h.kind=75 then .next k {s with link:=some (aC t)}
   else if(cu 5 9 t).2≠0 then .fault (cu 5 9 t).2
   else if h.kind=103 then .next k {s with cF:=s.cF++(cu 5 9 t).1}
   else .next k {s with dU:=true,own:=(cu 5 9 t).1}
def om (h:ak) (s:RS):Except Int (aq × Int):=
 let a:=ch (aD s.cF) s.own {h with name:=s.name.getD h.name,link:=s.link.getD h.link}
 let c:=bC 9 6 a.1.name
 let d:=bC 9 6 a.1.link
 let t:=dP 9 6 a.1.link
 if a.2≠0 then .error a.2
 else if c.2≠0 then .error c.2
 else if fq a.1.mode a.1.uid a.1.gid a.1.time=false then .error 4
 else if a.1.kind=49∧d.2≠0 then .error d.2
 else if a.1.kind=50∧t≠0 then .error t
 else if a.1.kind≠48∧a.1.size≠0 then .error 4
 else if 1048576<a.1.size then .error 10
 else .ok (⟨c.1,if a.1.kind=49 then d.1 else if a.1.kind=50 then a.1.link else[],a.1.kind,a.1.mode,a.1.uid,a.1.gid,a.1.time,[]⟩,a.1.size)
def oh (l:List UInt8) (h:ak) (s:RS):Step:=
 if 4096≤s.out.length then .fault 10
 else if h.kind≠48∧h.kind≠49∧h.kind≠50∧h.kind≠53 then .fault 8
 else match om h s with
  |.error e=>.fault e
  |.ok (m,n)=>match pN l n with
   |none=>.fault 2
   |some (t,k)=>.next k {s with out:=s.out++[{m with body:=t}],own:=[],name:=none,link:=none,dU:=false}
def cT (l:List UInt8):Bool:=l.all (·==0)
def nX (k:UInt8):Bool:=k==120||k==103||k==76||k==75
def dh (l:List UInt8) (s:RS):Step:=
 if l.length<512 then .fault 2
 else if cT (l.take 512)then
  if l.length - 512<512 then .fault 2
  else if cT (l.drop 512)=false then .fault 9
  else if s.dU=true∨s.name.isSome=true∨s.link.isSome=true then .fault 5
  else .done
 else if(aU (l.take 512)).2≠0 then .fault (aU (l.take 512)).2
 else if nX (aU (l.take 512)).1.kind then iC l (aU (l.take 512)).1 s
 else oh l (aU (l.take 512)).1 s
def nk:Nat→List UInt8→Nat→RS→List aq × Int × Nat
 |0,_,_,_=>([],2,0)
 |f+1,l,at_,s=>match dh l s with
  |.fault e=>([],e,at_)
  |.done=>(s.out,0,0)
  |.next k s'=>nk f (l.drop k) (at_+k) s'
def bu (l:List UInt8) (at_:Nat) (s:RS):List aq × Int × Nat:=nk (l.length+1) l at_ s
def gd:RS:=⟨[],[],[],none,none,false⟩
def cn (b:List UInt8):List aq × Int × Nat:=bu b 0 gd
theorem j9 (h:pN l n=some (t,k)):k=512+aP n.toNat∧aP n.toNat≤l.length - 512∧t=(l.drop 512).take n.toNat∧n≤2097152:=by
 unfold pN at h;split at h
 ·cases h
 ·cases h
  exact⟨rfl,by omega,rfl,by omega⟩
theorem j3 {s s':RS} (h:dh l s=.next k s'):512≤k∧k≤l.length:=by
 unfold dh at h;split at h
 ·cases h
 ·rename_i D
  split at h
  ·split at h
   ·cases h
   ·split at h
    ·cases h
    ·split at h<;>cases h
  ·split at h
   ·cases h
   ·split at h
    ·unfold iC at h
     split at h
     ·cases h
     ·split at h
      ·cases h
      ·split at h
       ·cases h
       ·rename_i t k' A
        obtain⟨h1,B,_,_⟩:=j9 A
        have hk:k=k':=by
         split at h
         ·cases h;rfl
         ·split at h
          ·cases h;rfl
          ·split at h
           ·cases h
           ·split at h<;>(cases h;rfl)
        omega
    ·unfold oh at h
     split at h
     ·cases h
     ·split at h
      ·cases h
      ·split at h
       ·cases h
       ·split at h
        ·cases h
        ·rename_i t k' A
         obtain⟨h1,B,_,_⟩:=j9 A
         cases h
         omega
theorem zu (n:Nat):∀m l at_ s,l.length<n→l.length<m→nk n l at_ s=nk m l at_ s:=by
 induction n with
 |zero=>intro m l at_ s h;omega
 |succ n ih=>
  intro m l at_ s h1 A
  cases m with
  |zero=>omega
  |succ m=>
   rw[nk,nk]
   cases hs:dh l s with
   |fault e=>rfl
   |done=>rfl
   |next k B=>
    obtain⟨g1,g2⟩:=j3 hs;exact ih m _ _ _ (by rw[Qe];omega) (by rw[Qe];omega)
theorem jC (l:List UInt8) (at_:Nat) (s:RS):bu l at_ s=match dh l s with
 |.fault e=>([],e,at_)
 |.done=>(s.out,0,0)
 |.next k s'=>bu (l.drop k) (at_+k) s':=by
 unfold bu;rw[nk]
 cases hs:dh l s with
 |fault e=>rfl
 |done=>rfl
 |next k s'=>
  obtain⟨g1,g2⟩:=j3 hs;exact zu _ _ _ _ _ (by rw[Qe];omega) (by omega)
theorem eb {s:RS} (h:dh l s=.fault e) (at_:Nat):bu l at_ s=([],e,at_):=by rw[jC,h]
theorem gr {s:RS} (h:dh l s=.done) (at_:Nat):bu l at_ s=(s.out,0,0):=by rw[jC,h]
theorem eF {s s':RS} (h:dh l s=.next k s') (at_:Nat):bu l at_ s=bu (l.drop k) (at_+k) s':=by rw[jC,h]
def jO (l:List UInt8):Bool:=l.all fun b=>decide (b.toNat≤127)
def aY:List UInt8:=[64,108,111,110,103]
def S7:List UInt8:=[64,112,97,120]
def xo (n:Nat):ak:=⟨S7,[],120,0,0,0,0,(n:Int),false⟩
def gS (m:aq):Bool:=(fH m.path).isNone||!jO m.path
def fD (m:aq):Bool:=decide (100<m.target.length)||!jO m.target
def aV (m:aq):ak:=
 ⟨if gS m then aY else m.path,if fD m then aY else m.target,m.kind,m.mode,if 2097151<m.uid then 0 else m.uid,if 2097151<m.gid then 0 else m.gid,if 8589934591<m.time then 0 else m.time,(m.body.length:Int),false⟩
def aJ (m:aq):bM:=
 (if gS m then[(aF 4,m.path)]else[])++(if fD m then[(aF 5,m.target)]else[])++(if 2097151<m.uid then[(aF 0,aG m.uid.toNat)]else[])++
  (if 2097151<m.gid then[(aF 1,aG m.gid.toNat)]else[])++(if 8589934591<m.time then[(aF 2,aG m.time.toNat)]else[])
def jY (l:List UInt8):List UInt8:=l++List.replicate (aP l.length - l.length) 0
def fB (m:aq):List UInt8:=
 (if aI (aJ m)=[]then[]else(eE (xo (aI (aJ m)).length)).getD []++jY (aI (aJ m)))++((eE (aV m)).getD []++jY m.body)
def uy (ms:List aq):List UInt8:=(ms.map fB).flatten++List.replicate 1024 0
theorem jL (n:Nat):n≤aP n∧aP n<n+512:=by unfold aP;omega
theorem bp (l:List UInt8):(jY l).length=aP l.length:=by
 have:=(jL l.length).1;simp only[jY,Qf,List.length_replicate];omega
theorem uD (H body rest:List UInt8) (hH:H.length=512) (hb:body.length≤2097152):pN (H++(jY body++rest)) (body.length:Int)=some (body,512+aP body.length):=by
 unfold pN;have A:=bp body;rw[if_neg (by simp only[Qf,hH,A,Int.toNat_natCast];omega),Int.toNat_natCast]
 congr 2
 rw[←hH,List.drop_left,jY,List.append_assoc,List.take_left'];rfl
theorem yo (H body rest:List UInt8) (hH:H.length=512):(H++(jY body++rest)).drop (512+aP body.length)=rest:=by
 rw[←hH,←bp,List.drop_append,List.drop_append];simp
theorem np (base:Int) (hb:0<base):∀(k:Nat) (n:Int),0≤n→n<base ^ k→dv base k n=0
 |0,n,h0,h1=>by simp only[Int.pow_zero]at h1;simp only[dv];omega
 |k+1,n,h0,h1=>by
  rw[dv];refine np base hb k _ (Int.ediv_nonneg h0 (by omega)) (Int.ediv_lt_of_lt_mul hb ?_)
  rwa [Int.pow_succ]at h1
theorem qk (h0:0≤n) (h1:n<2097152):(eD n 8).isSome=true:=by
 rw[pq h0 (by omega) (by omega) (by omega) (np 8 (by omega) _ n h0 (by simpa using h1))];rfl
theorem sU (h0:0≤n) (h1:n<8589934592):(eD n 12).isSome=true:=by
 rw[pq h0 (by omega) (by omega) (by omega) (np 8 (by omega) _ n h0 (by simpa using h1))];rfl
theorem DY (hc:(fH h.name).isSome=true) (hb:kK h=false) (hn:eA h=true):∃H,eE h=some H∧H.length=512∧aU H=(h,0):=by
 obtain⟨ps,A⟩:=Option.isSome_iff_exists.1 hc
 have e:eE h=some (ca (qM h ps.1 ps.2)):=by
  unfold eE;rw[A];simp[hb,hn]
 exact⟨_,e,bD _,FG e⟩
theorem rC (l:List UInt8) (h:∀b∈l,0<b.toNat∧b.toNat<128):aS l=true:=by
 induction l with
 |nil=>exact px
 |cons c l ih=>
  obtain⟨h1,A⟩:=yG c (h c (List.mem_cons_self ..)) l;rw[eK _ (by simp),if_pos h1,A];exact ih fun b B=>h b (List.mem_cons_of_mem _ B)
theorem qu (h:aS l=true):∀x∈l,x≠0:=by
 rw[tE,Bool.and_eq_true,Bool.not_eq_true']at h;intro x A e;subst e;have:=h.2;rw[List.contains_eq_mem,decide_eq_false_iff_not]at this;exact this A
theorem rK (n:Nat):aS (aG n)=true:=rC _ fun b A=>by
 have:=nN n b A;simp only[aW,decide_eq_true_eq]at this;omega
theorem AY (n:Nat):aG n≠[]:=List.length_pos_iff.1 (fg n)
theorem pC {n:Nat} (h:n<10 ^ 18):cJ (aG n)=some n:=by
 have h1:=fg n;have B:=kX n 18 (by omega) h;have A:(aG n).all aW=true:=List.all_eq_true.2 (nN n);rw[cJ,if_neg (by omega),if_pos A,zO]
theorem index_none (l:List UInt8) (c:UInt8) (h:c∉l):indexByte l c=-1:=by
 induction l with
 |nil=>rfl
 |cons b l ih=>
  have A:(b==c)=false:=beq_eq_false_iff_ne.2 fun e=>h (by rw[e];exact List.mem_cons_self ..)
  have hi:=ih fun hc=>h (List.mem_cons_of_mem _ hc)
  simp[indexByte,A,hi]
theorem MG {n:Nat} (h:n<10 ^ 18):uf (aG n)=some n:=by
 have:indexByte (aG n) 46=-1:=index_none _ _ fun hc=>by
  have:=nN n 46 hc;exact absurd this (by decide)
 rw[uf,this,if_neg (by omega),pC h]
structure cG (m:aq):Prop where
 path:bC 9 6 m.path=(m.path,0)
 NB:aS m.path=true
 S6:m.path≠[]
 qg:m.path.length≤200
 mode:0≤m.mode∧m.mode≤4095
 uid:0≤m.uid∧m.uid<2147483648
 gid:0≤m.gid∧m.gid<2147483648
 time:0≤m.time∧m.time≤1099511627776
 body:m.body.length≤1048576
 file:m.kind≠48→m.body=[]
 kind:m.kind=48∨m.kind=49∨m.kind=50∨m.kind=53
 none:m.kind=48∨m.kind=53→m.target=[]
 OK:m.kind=49→bC 9 6 m.target=(m.target,0)
 sym:m.kind=50→dP 9 6 m.target=0
 ND:aS m.target=true
 vJ:m.target.length≤200
theorem pP (h:bC 9 6 l=(l,0)):aS l=true∧l≠[]∧l.length≤200:=by
 have h1:=(nK 9 6 (by omega) (by omega) l l).1 h;have A:=mX 9 6 (by omega) (by omega) l l h;exact⟨h1.1,A.2.1,A.2.2.2⟩
theorem xE (h:dP 9 6 l=0):aS l=true∧l≠[]∧l.length≤200:=by
 unfold dP at h;split at h
 ·omega
 ·rename_i h1
  split at h
  ·omega
  ·rename_i A
   simp only[not_or]at A;exact⟨by simpa using h1,A.1,by omega⟩
theorem dZ {m:aq} (h:bk m=true):cG m:=by
 simp only[bk,Bool.and_eq_true,eh,fq,decide_eq_true_eq,Bool.or_eq_true,beq_iff_eq]at h;obtain⟨⟨⟨⟨h1,U⟩,L⟩,M⟩,A⟩:=h;obtain⟨O,R,T⟩:=pP h1
 have hk:(m.kind=48∨m.kind=49∨m.kind=50∨m.kind=53)∧((m.kind=48∨m.kind=53)→m.target=[])∧(m.kind=49→bC 9 6 m.target=(m.target,0))∧(m.kind=50→dP 9 6 m.target=0):=by
  split at A
  ·rename_i hk
   refine⟨by rcases hk with e|e<;>simp[e],fun _=>by simpa using A,fun e=>?_,fun e=>?_⟩<;>(rw[e]at hk;exact absurd hk (by decide))
  ·rename_i hk
   split at A
   ·rename_i B
    refine⟨by simp[B],fun e=>absurd e hk,fun _=>by simpa using A,fun e=>?_⟩;rw[B]at e;exact absurd e (by decide)
   ·rename_i B
    split at A
    ·rename_i J
     exact⟨by simp[J],fun e=>absurd e hk,fun e=>absurd e B,fun _=>by simpa using A⟩
    ·cases A
 obtain⟨G,D,H,I⟩:=hk
 have E:aS m.target=true∧m.target.length≤200:=by
  rcases G with e|e|e|e
  ·rw[D (.inl e)];exact⟨px,by simp⟩
  ·have:=pP (H e);exact⟨this.1,this.2.2⟩
  ·have:=xE (I e);exact⟨this.1,this.2.2⟩
  ·rw[D (.inr e)];exact⟨px,by simp⟩
 exact⟨h1,O,R,T,by omega,by omega,by omega,by omega,L,fun N=>M.resolve_left N,G,D,H,I,E.1,E.2⟩
theorem uN {m:aq} (h:cG m):∃H,eE (aV m)=some H∧H.length=512∧aU H=(aV m,0):=by
 refine DY ?_ ?_ ?_
 ·show(fH (if gS m then aY else m.path)).isSome=true
  split
  ·rfl
  ·rename_i A
   simp only[gS,Bool.or_eq_true,not_or,Bool.not_eq_true,Option.isNone_eq_false_iff]at A;exact A.1
 ·have I:(aV m).name.contains 0=false:=by
   show(if gS m then aY else m.path).contains 0=false;split
   ·decide
   ·rw[List.contains_eq_mem,decide_eq_false_iff_not]
    exact fun D=>qu h.NB 0 D rfl
  have G:(aV m).link.contains 0=false:=by
   show(if fD m then aY else m.target).contains 0=false;split
   ·decide
   ·rw[List.contains_eq_mem,decide_eq_false_iff_not]
    exact fun D=>qu h.ND 0 D rfl
  have hl:(aV m).link.length≤100:=by
   show(if fD m then aY else m.target).length≤100;split
   ·decide
   ·rename_i A
    simp only[fD,Bool.or_eq_true,not_or,Bool.not_eq_true,decide_eq_false_iff_not]at A;omega
  have hk:(m.kind==0)=false:=by rcases h.kind with e|e|e|e<;>rw[e]<;>decide
  have L:((aV m).kind==0)=false:=hk;have B:(aV m).eG=false:=rfl;have E:decide (100<(aV m).link.length)=false:=decide_eq_false (by omega);simp only[kK,I,G,L,B,E,Bool.or_false]
 ·refine cP.2 fun i h1 M=>?_
  have hm:=h.mode;have hu:=h.uid;have B:=h.gid;have J:=h.time;have N:=h.body;obtain rfl|rfl|rfl|rfl|rfl:i=1∨i=2∨i=3∨i=4∨i=5:=by omega
  ·exact qk (n:=m.mode) hm.1 (by omega)
  ·show(eD (if 2097151<m.uid then 0 else m.uid) 8).isSome=true
   split
   ·exact qk (by omega) (by omega)
   ·exact qk hu.1 (by omega)
  ·show(eD (if 2097151<m.gid then 0 else m.gid) 8).isSome=true
   split
   ·exact qk (by omega) (by omega)
   ·exact qk B.1 (by omega)
  ·exact sU (n:=(m.body.length:Int)) (by omega) (by omega)
  ·show(eD (if 8589934591<m.time then 0 else m.time) 12).isSome=true
   split
   ·exact sU (by omega) (by omega)
   ·exact sU J.1 (by omega)
theorem LC (name:List UInt8) (hn:name.length≤100) (hz:name.contains 0=false) (k:UInt8) (hk:k≠0) (n:Nat) (hs:n≤1048576):∃H,eE ⟨name,[],k,0,0,0,0,(n:Int),false⟩=some H∧H.length=512∧aU H=(⟨name,[],k,0,0,0,0,(n:Int),false⟩,0):=by
 refine DY (by rw[mZ hn];rfl) ?_ (cP.2 fun i h1 A=>?_)
 ·have:(k==0)=false:=beq_eq_false_iff_ne.2 hk
  simp only[kK,hz,this,List.length_nil,List.contains_nil,Bool.or_false];rfl
 ·obtain rfl|rfl|rfl|rfl|rfl:i=1∨i=2∨i=3∨i=4∨i=5:=by omega
  ·exact qk (n:=0) (by omega) (by omega)
  ·exact qk (n:=0) (by omega) (by omega)
  ·exact qk (n:=0) (by omega) (by omega)
  ·exact sU (n:=(n:Int)) (by omega) (by omega)
  ·exact sU (n:=0) (by omega) (by omega)
theorem zm {n:Nat} (hs:n≤1048576):∃H,eE (xo n)=some H∧H.length=512∧aU H=(xo n,0):=LC S7 (by decide) (by decide) 120 (by decide) n hs
theorem og (i:Nat) (hi:i<6) (h1:aS v=true) (h2:v.length≤200):fQ (aF i) v=true:=by
 have hk:(aF i).contains 61=false∧(aF i).isEmpty=false∧aS (aF i)=true∧(aF i).length≤8:=by
  obtain rfl|rfl|rfl|rfl|rfl|rfl:i=0∨i=1∨i=2∨i=3∨i=4∨i=5:=by omega
  all_goals exact⟨by decide,by decide,rC _ (by decide),by decide⟩
 obtain⟨A,B,D,E⟩:=hk;simp only[fQ,A,B,D,h1,Bool.not_false,Bool.true_and,decide_eq_true_eq];omega
theorem lY (h0:0≤n) (h:n≤1099511627776):(aG n.toNat).length≤18:=kX _ 18 (by omega) (by omega)
theorem fW {m:aq} (h:cG m):∀r∈aJ m,fQ r.1 r.2=true:=by
 intro r hr;have hu:=h.uid;have A:=h.gid;have B:=h.time;simp only[aJ,List.mem_append]at hr
 have d:∀(c:Prop) [Decidable c] (k v:List UInt8),r∈(if c then[(k,v)]else[])→r=(k,v):=fun c _ k v hr=>by
  split at hr
  ·exact List.mem_singleton.1 hr
  ·cases hr
 rcases hr with(((hr|hr)|hr)|hr)|hr<;>(have e:=d _ _ _ hr;subst e)
 ·exact og 4 (by omega) h.NB h.qg
 ·exact og 5 (by omega) h.ND h.vJ
 ·exact og 0 (by omega) (rK _) (by have:=lY hu.1 (by omega);show(aG _).length≤200;omega)
 ·exact og 1 (by omega) (rK _) (by have:=lY A.1 (by omega);show(aG _).length≤200;omega)
 ·exact og 2 (by omega) (rK _) (by have:=lY B.1 (by omega);show(aG _).length≤200;omega)
theorem mM {l:bM} (h:∀r∈l,fQ r.1 r.2=true):cu 5 9 (aI l)=(l,0):=by
 have:=Cw 5 9 l [] [] h;rw[List.append_nil,List.nil_append,oE]at this;exact this
theorem sA {n:Nat}:∀{l:bM},(∀r∈l,fQ r.1 r.2=true∧r.1.length+r.2.length≤n)→(aI l).length≤l.length*(n+10)
 |[],_=>by simp[aI]
 |r::l,h=>by
  have E:=sA fun x A=>h x (List.mem_cons_of_mem _ A)
  obtain⟨h1,D⟩:=h r (List.mem_cons_self ..);obtain⟨d,_,_,_,_,B,_,hlen⟩:=nh h1;have e:aI (r::l)=cC r.1 r.2++aI l:=by simp[aI]
  rw[e,Qf,hlen,List.length_cons,Nat.succ_mul];omega
theorem Jz (c:Prop) [Decidable c] (k v q:List UInt8):aD (if c then[(k,v)]else[]) q=if c∧k=q then some v else none:=by
 by_cases h:c
 ·by_cases hk:k=q<;>simp[aD,h,hk]
 ·simp[aD,h]
theorem Cv (m:aq):aD (aJ m) (aF 0)=(if 2097151<m.uid then some (aG m.uid.toNat)else none)∧aD (aJ m) (aF 1)=(if 2097151<m.gid then some (aG m.gid.toNat)else none)∧
 aD (aJ m) (aF 2)=(if 8589934591<m.time then some (aG m.time.toNat)else none)∧aD (aJ m) (aF 3)=none∧aD (aJ m) (aF 4)=(if gS m=true then some m.path else none)∧
 aD (aJ m) (aF 5)=(if fD m=true then some m.target else none):=by
 unfold aJ;simp only[mc,Jz];have U:¬aF 1=aF 0:=by decide
 have g:¬aF 2=aF 0:=by decide
 have G:¬aF 4=aF 0:=by decide
 have M:¬aF 5=aF 0:=by decide
 have V:¬aF 0=aF 1:=by decide
 have A:¬aF 2=aF 1:=by decide
 have H:¬aF 4=aF 1:=by decide
 have N:¬aF 5=aF 1:=by decide
 have W:¬aF 0=aF 2:=by decide
 have b:¬aF 1=aF 2:=by decide
 have I:¬aF 4=aF 2:=by decide
 have O:¬aF 5=aF 2:=by decide
 have X:¬aF 0=aF 3:=by decide
 have c:¬aF 1=aF 3:=by decide
 have B:¬aF 2=aF 3:=by decide
 have J:¬aF 4=aF 3:=by decide
 have R:¬aF 5=aF 3:=by decide
 have Y:¬aF 0=aF 4:=by decide
 have d:¬aF 1=aF 4:=by decide
 have D:¬aF 2=aF 4:=by decide
 have T:¬aF 5=aF 4:=by decide
 have Z:¬aF 0=aF 5:=by decide
 have f:¬aF 1=aF 5:=by decide
 have E:¬aF 2=aF 5:=by decide
 have L:¬aF 4=aF 5:=by decide
 simp only[U,g,G,M,V,A,H,N,W,b,I,O,X,c,B,J,R,Y,d,D,T,Z,f,E,L,and_true,and_false,if_false];refine⟨?_,?_,?_,?_,?_,?_⟩
 ·by_cases h:2097151<m.uid<;>simp[h]
 ·by_cases h:2097151<m.gid<;>simp[h]
 ·by_cases h:8589934591<m.time<;>simp[h]
 ·simp
 ·simp
 ·by_cases h:fD m=true<;>simp[h]
def rR (F:List UInt8→Option (List UInt8)):Prop:=
 (∀i,1≤i→i<6→(F (aF i)).getD []=[])∧((F (aF 0)).getD []=[]∨∃n,cJ ((F (aF 0)).getD [])=some n∧n<2147483648)
theorem FB:rR (aD []):=⟨fun i _ _=>rfl,.inl rfl⟩
def ur (F:List UInt8→Option (List UInt8)) (m:aq):Int:=
 if 2097151<m.uid then m.uid else if(F (aF 0)).getD []=[]then m.uid else(((cJ ((F (aF 0)).getD [])).getD 0:Nat):Int)
def lV (F:List UInt8→Option (List UInt8)) (m:aq):aq:={m with uid:=ur F m}
theorem G6 (m:aq):lV (aD []) m=m:=by
 have:ur (aD []) m=m.uid:=by
  unfold ur;split
  ·rfl
  ·exact if_pos rfl
 unfold lV;rw[this]
theorem MK {m:aq} (hF:rR F) (h:cG m):0≤ur F m∧ur F m<2147483648:=by
 unfold ur;have:=h.uid;split
 ·exact this
 ·split
  ·exact this
  ·rename_i h1 A
   obtain⟨n,B,hl⟩:=hF.2.resolve_left A;rw[B];simp only[Option.getD_some];omega
theorem yc {m:aq} (hF:rR F) (h:cG m):
 ch F (aJ m) (aV m)=(⟨m.path,m.target,m.kind,m.mode,ur F m,m.gid,m.time,(m.body.length:Int),false⟩,0):=by
 obtain⟨D,E,G,H,I,J⟩:=Cv m;obtain⟨f,f0⟩:=hF;have hu:=h.uid;have O:=h.gid;have R:=h.time
 have L:dI false (dE F (aJ m) (aF 0)) (aV m).uid=some (ur F m):=by
  have e:(aV m).uid=if 2097151<m.uid then 0 else m.uid:=rfl
  unfold dE ur;rw[D,e]
  by_cases hc:2097151<m.uid
  ·simp only[if_pos hc]
   unfold dI;rw[if_neg (AY _)];simp only[Bool.false_eq_true,if_false];rw[pC (by omega)];simp only[Option.map_some]
   congr 1
   show((m.uid.toNat:Nat):Int)=m.uid;omega
  ·simp only[if_neg hc]
   unfold dI
   by_cases A:(F (aF 0)).getD []=[]
   ·rw[if_pos A,if_pos A]
   ·rw[if_neg A,if_neg A]
    obtain⟨n,B,_⟩:=f0.resolve_left A;simp only[Bool.false_eq_true,if_false];rw[B];rfl
 have M:dI false (dE F (aJ m) (aF 1)) (aV m).gid=some m.gid:=by
  have e:(aV m).gid=if 2097151<m.gid then 0 else m.gid:=rfl
  unfold dE;rw[E,e]
  by_cases hc:2097151<m.gid
  ·simp only[if_pos hc]
   unfold dI;rw[if_neg (AY _)];simp only[Bool.false_eq_true,if_false];rw[pC (by omega)];simp only[Option.map_some]
   congr 1
   show((m.gid.toNat:Nat):Int)=m.gid;omega
  ·simp only[if_neg hc]
   unfold dI;rw[if_pos (f 1 (by omega) (by omega))]
 have N:dI true (dE F (aJ m) (aF 2)) (aV m).time=some m.time:=by
  have e:(aV m).time=if 8589934591<m.time then 0 else m.time:=rfl
  unfold dE;rw[G,e]
  by_cases hc:8589934591<m.time
  ·simp only[if_pos hc]
   unfold dI;rw[if_neg (AY _)];simp only[if_true];rw[MG (by omega)];simp only[Option.map_some]
   congr 1
   show((m.time.toNat:Nat):Int)=m.time;omega
  ·simp only[if_neg hc]
   unfold dI;rw[if_pos (f 2 (by omega) (by omega))]
 have n3:dI false (dE F (aJ m) (aF 3)) (aV m).size=some (m.body.length:Int):=by
  unfold dE;rw[H];unfold dI;rw[if_pos (f 3 (by omega) (by omega))];rfl
 have n4:aB (dE F (aJ m) (aF 4)) (aV m).name=m.path:=by
  have e:(aV m).name=if gS m then aY else m.path:=rfl
  unfold dE;rw[I,e]
  by_cases hc:gS m=true
  ·simp only[if_pos hc]
   unfold aB;rw[if_neg h.S6]
  ·simp only[if_neg hc]
   unfold aB;rw[if_pos (f 4 (by omega) (by omega))]
 have n5:aB (dE F (aJ m) (aF 5)) (aV m).link=m.target:=by
  have e:(aV m).link=if fD m then aY else m.target:=rfl
  unfold dE;rw[J,e]
  by_cases hc:fD m=true
  ·simp only[if_pos hc]
   unfold aB;rw[if_neg];intro e;rw[fD,e]at hc;simp[jO]at hc
  ·simp only[if_neg hc]
   unfold aB;rw[if_pos (f 5 (by omega) (by omega))]
 unfold ch ew;simp only[L,M,N,n3,n4,n5];rfl
theorem yZ {m:aq} (h:cG m) {s:RS} (hF:rR (aD s.cF)) (ho:s.own=aJ m) (hn:s.name=none) (hl:s.link=none):
 om (aV m) s=.ok ({lV (aD s.cF) m with body:=[]},(m.body.length:Int)):=by
 have A:=yc hF h;have e:({aV m with name:=s.name.getD (aV m).name,link:=s.link.getD (aV m).link}:ak)=aV m:=by rw[hn,hl];rfl
 have hu:=MK hF h
 have hm:fq m.mode (ur (aD s.cF) m) m.gid m.time=true:=by
  have h1:=h.mode;have E:=h.gid;have G:=h.time;simp only[fq,decide_eq_true_eq];omega
 unfold om;simp only[ho,e,A]
 rw[if_neg (by simp),h.path,if_neg (by simp),hm,if_neg (by simp),if_neg (by rintro⟨hk,hd⟩;rw[h.OK hk]at hd;exact hd rfl),if_neg (by rintro⟨hk,hd⟩;exact hd (h.sym hk)),
  if_neg (by rintro⟨hk,hd⟩;rw[h.file hk]at hd;exact hd rfl),if_neg (by have:=h.body;omega)]
 have B:(if m.kind=49 then(bC 9 6 m.target).1 else if m.kind=50 then m.target else[])=m.target:=by
  split
  ·rename_i hk
   rw[h.OK hk]
  ·rename_i hk
   split
   ·rfl
   ·rename_i D
    exact(h.none (by rcases h.kind with e|e|e|e<;>simp_all)).symm
 rw[B];rfl
theorem Bq (hr:aU H=(h,0)):au H 9=dO∨au H 9=qz:=by
 unfold aU at hr;split at hr
 ·cases (Prod.mk.inj hr).2
 ·split at hr
  ·cases (Prod.mk.inj hr).2
  ·split at hr
   ·cases (Prod.mk.inj hr).2
   ·rename_i _ _ B
    by_cases h1:au H 9=dO
    ·exact .inl h1
    ·by_cases A:au H 9=qz
     ·exact .inr A
     ·exact absurd ⟨h1,A⟩ B
theorem wL (hr:aU H=(h,0)):cT H=false:=by
 cases A:cT H with
 |false=>rfl
 |true=>
  have hm:(117:UInt8)∈au H 9∨(117:UInt8)∈au H 9:=by
   rcases Bq hr with e|e<;>rw[e]<;>simp[dO,qz]
  have hm:(117:UInt8)∈H:=List.mem_of_mem_drop (List.mem_of_mem_take (hm.elim id id));rw[cT,List.all_eq_true]at A;exact absurd (A 117 hm) (by decide)
theorem tw (hL:512≤L.length) (hH:L.take 512=H) (hr:aU H=(h,0)) (s:RS):dh L s=if nX h.kind then iC L h s else oh L h s:=by
 unfold dh;rw[if_neg (by omega),hH,wL hr,if_neg (by simp),hr,if_neg (by simp)]
theorem vI {X:List UInt8} (hH:H.length=512):(H++X).take 512=H:=by rw[←hH,List.take_left'];rfl
theorem PR (hH:H.length=512) (hr:aU H=(h,0)) (hk:h.kind=120) (hz:h.size=(body.length:Int)) (hb:body.length≤1048576) {rs:bM} (ie:cu 5 9 body=(rs,0)) (rest:List UInt8) (s:RS) (hx:s.dU=false):
 dh (H++(jY body++rest)) s=.next (512+aP body.length) {s with dU:=true,own:=rs}:=by
 rw[tw (by rw[Qf];omega) (vI hH) hr,hk,if_pos (by decide),iC,hk,if_neg (by simp[hx]),hz,if_neg (by omega),uD H body rest hH (by omega)];simp only[ie];rfl
theorem WR {k:UInt8} (h:k=48∨k=49∨k=50∨k=53):nX k=false∧¬(k≠48∧k≠49∧k≠50∧k≠53):=by
 rcases h with e|e|e|e<;>rw[e]<;>exact⟨by decide,by decide⟩
theorem PQ (hH:H.length=512) (hr:aU H=(h,0)) (hk:h.kind=48∨h.kind=49∨h.kind=50∨h.kind=53) {m:aq} {s:RS} (hm:om h s=.ok (m,(body.length:Int))) (hb:body.length≤1048576) (rest:List UInt8) (ho:s.out.length<4096):
 dh (H++(jY body++rest)) s=.next (512+aP body.length) {s with out:=s.out++[{m with body:=body}],own:=[],name:=none,link:=none,dU:=false}:=by
 obtain⟨A,B⟩:=WR hk;rw[tw (by rw[Qf];omega) (vI hH) hr,A,if_neg (by simp),oh,if_neg (by omega),if_neg B,hm];simp only;rw[uD H body rest hH (by omega)]
theorem vF (h:L.length<512) (s:RS):dh L s=.fault 2:=by
 unfold dh;rw[if_pos h]
structure Ab (s:RS):Prop where
 own:s.own=[]
 name:s.name=none
 link:s.link=none
 dU:s.dU=false
theorem tt:Ab gd:=⟨rfl,rfl,rfl,rfl⟩
def lC (s:RS) (ms:List aq):RS:={s with out:=s.out++ms}
theorem sK {s:RS} (h:Ab s) (ms:List aq):Ab (lC s ms):=⟨h.own,h.name,h.link,h.dU⟩
theorem rF {s:RS} (h:Ab s) (ms:List aq):({s with out:=s.out++ms,own:=[],name:=none,link:=none,dU:=false}:RS)=lC s ms:=by
 obtain⟨h1,A,B,D⟩:=h
 cases s
 simp only at h1 A B D;subst h1;subst A;subst B;subst D;rfl
theorem CW (F:List UInt8→Option (List UInt8)) (m:aq):({({lV F m with body:=[]}:aq)with body:=m.body}:aq)=lV F m:=rfl
theorem uY {l:bM} (hm:∀r∈l,fQ r.1 r.2=true) (h:aI l=[]):l=[]:=by
 have h1:=mM hm;rw[h]at h1;have A:cu 5 9 []=([],0):=rfl;rw[A]at h1;exact(Prod.mk.inj h1).1.symm
theorem jV {m:aq} (h:cG m):(aI (aJ m)).length≤1048576:=by
 have h1:=fW h
 have B:(aJ m).length≤5:=by
  have d:∀(c:Prop) [Decidable c] (k v:List UInt8),(if c then[(k,v)]else[]).length≤1:=fun c _ k v=>by split<;>simp
  simp only[aJ,Qf];have d1:=d (gS m=true) (aF 4) m.path;have d2:=d (fD m=true) (aF 5) m.target;have d3:=d (2097151<m.uid) (aF 0) (aG m.uid.toNat);have d4:=d (2097151<m.gid) (aF 1) (aG m.gid.toNat);have d5:=d (8589934591<m.time) (aF 2) (aG m.time.toNat);omega
 have D:=sA (n:=100000) fun r A=>⟨h1 r A,(jW (h1 r A)).2.2.2.2⟩
 have E:(aJ m).length*(100000+10)≤5*(100000+10):=Nat.mul_le_mul_right _ B;omega
theorem jZ {m:aq} (h:cG m):∃H,eE (aV m)=some H∧H.length=512∧aU H=(aV m,0)∧
 ((aJ m=[]∧fB m=H++jY m.body)∨∃X,eE (xo (aI (aJ m)).length)=some X∧X.length=512∧aU X=(xo (aI (aJ m)).length,0)∧fB m=X++jY (aI (aJ m))++(H++jY m.body)):=by
 obtain⟨H,h1,B,D⟩:=uN h;refine⟨H,h1,B,D,?_⟩
 by_cases hl:aI (aJ m)=[]
 ·refine .inl ⟨uY (fW h) hl,?_⟩
  rw[fB,if_pos hl,h1];rfl
 ·obtain⟨X,A,E,G⟩:=zm (jV h)
  refine .inr ⟨X,A,E,G,?_⟩;rw[fB,if_neg hl,h1,A];rfl
theorem vu {m:aq} (h:cG m) (hH:H.length=512) (hr:aU H=(aV m,0)) {s:RS} (hF:rR (aD s.cF)) (ho:s.own=aJ m) (hn:s.name=none) (hl:s.link=none) (hs:s.out.length<4096) (rest:List UInt8) (at_:Nat):
 bu (H++(jY m.body++rest)) at_ s=bu rest (at_+(512+aP m.body.length)) {s with out:=s.out++[lV (aD s.cF) m],own:=[],name:=none,link:=none,dU:=false}:=by
 rw[eF (PQ hH hr h.kind (yZ h hF ho hn hl) h.body rest hs),yo H m.body rest hH,CW]
theorem Kd {m:aq} (h:cG m) {s:RS} (hs:Ab s) (hF:rR (aD s.cF)) (ho:s.out.length<4096) (rest:List UInt8) (at_:Nat):
 bu (fB m++rest) at_ s=bu rest (at_+(fB m).length) (lC s [lV (aD s.cF) m]):=by
 obtain⟨H,_,A,B,hl⟩:=jZ h;rcases hl with⟨hr,e⟩|⟨X,_,x2,x3,e⟩
 ·have hlen:(fB m).length=512+aP m.body.length:=by rw[e,Qf,A,bp]
  rw[hlen,e,List.append_assoc,vu h A B hF (by rw[hs.own,hr]) hs.name hs.link ho,rF hs]
 ·have hlen:(fB m).length=512+aP (aI (aJ m)).length+(512+aP m.body.length):=by
   rw[e,Qf,Qf,Qf,A,x2,bp,bp]
  rw[hlen,e,List.append_assoc,List.append_assoc,eF (PR x2 x3 rfl rfl (jV h) (mM (fW h)) _ s hs.dU),yo X _ _ x2,List.append_assoc,
   vu (s:={s with dU:=true,own:=aJ m}) h A B hF rfl hs.name hs.link ho,Nat.add_assoc]
  congr 1
  exact rF hs _
def cd (ms:List aq):List UInt8:=(ms.map fB).flatten
theorem fu (m:aq) (ms:List aq):cd (m::ms)=fB m++cd ms:=by simp[cd]
theorem zo (a b:List aq):cd (a++b)=cd a++cd b:=by simp[cd]
theorem kU (ms:List aq):uy ms=cd ms++List.replicate 1024 0:=rfl
theorem B5 (s:RS) (a b:List aq):lC (lC s a) b=lC s (a++b):=by simp[lC]
theorem sL (s:RS) (a:List aq):(lC s a).cF=s.cF:=rfl
theorem vb (s:RS) (a:List aq):(lC s a).out=s.out++a:=rfl
theorem zw:∀(ms:List aq) {s:RS} (hs:Ab s) (hF:rR (aD s.cF)) (h:∀m∈ms,cG m) (ho:s.out.length+ms.length≤4096) (rest:List UInt8) (at_:Nat),
 bu (cd ms++rest) at_ s=bu rest (at_+(cd ms).length) (lC s (ms.map (lV (aD s.cF))))
 |[],s,hs,hF,h,ho,rest,at_=>by simp[cd,lC]
 |m::ms,s,hs,hF,h,ho,rest,at_=>by
  have hl:s.out.length+(ms.length+1)≤4096:=ho
  rw[fu,List.append_assoc,Kd (h m (List.mem_cons_self ..)) hs hF (by omega),
   zw ms (sK hs _) (by rw[sL];exact hF) (fun x A=>h x (List.mem_cons_of_mem _ A)) (by rw[vb,Qf];simp only[List.length_cons,List.length_nil];omega),
   B5,sL,Qf,Nat.add_assoc]
  rfl
theorem qx (n:Nat):cT (List.replicate n 0)=true:=by
 rw[cT,List.all_eq_true];intro x A;rw[(List.mem_replicate.1 A).2];rfl
theorem Om {s:RS} (hs:Ab s) (n:Nat) (hn:1024≤n) (at_:Nat):bu (List.replicate n 0) at_ s=(s.out,0,0):=by
 refine gr ?_ at_;unfold dh
 rw[if_neg (by rw[List.length_replicate];omega),List.take_replicate,qx,if_pos rfl,if_neg (by rw[List.length_replicate];omega),List.drop_replicate,qx,if_neg (by simp),
  if_neg (by rw[hs.dU,hs.name,hs.link];simp)]
theorem ub (ms:List aq):ms.map (lV (aD []))=ms:=by
 have:lV (aD [])=id:=funext G6;rw[this,List.map_id]
theorem Gv {ms:List aq} (h:∀m∈ms,cG m) (hl:ms.length≤4096) (n:Nat):cn (uy ms++List.replicate n 0)=(ms,0,0):=by
 rw[cn,kU,List.append_assoc,List.replicate_append_replicate,zw ms tt FB h (by show 0+ms.length≤4096;omega),Om (sK tt _) _ (by omega),vb];show([]++ms.map (lV (aD [])),(0:Int),0)=_;rw[ub,List.nil_append]
theorem yb (h0:(ew V h).2=0):(ew V h).1.kind=h.kind:=by
 unfold ew at h0⊢;split
 ·rfl
 ·rename_i G
  exfalso;split at h0
  ·rename_i u g t s A B D E
   exact G u g t s A B D E
  ·simp at h0
theorem B2 {s:RS} {m:aq} (hm:om h s=.ok (m,n)) (hk:¬(h.kind≠48∧h.kind≠49∧h.kind≠50∧h.kind≠53)) (ht:t.length≤n.toNat):bk {m with body:=t}=true:=by
 unfold om at hm;simp only at hm;generalize T:ch (aD s.cF) s.own {h with name:=s.name.getD h.name,link:=s.link.getD h.link}=a at hm;split at hm
 ·cases hm
 rename_i E;have E:a.2=0:=Decidable.of_not_not E
 have G:a.1.kind=h.kind:=by
  rw[←T]at E⊢;exact yb E
 split at hm
 ·cases hm
 rename_i hc;have hc:bC 9 6 a.1.name=((bC 9 6 a.1.name).1,0):=Prod.ext rfl (Decidable.of_not_not hc);split at hm
 ·cases hm
 rename_i N;split at hm
 ·cases hm
 rename_i hd;split at hm
 ·cases hm
 rename_i I;split at hm
 ·cases hm
 rename_i hf;split at hm
 ·cases hm
 rename_i hs
 cases hm
 have c1:=(mX 9 6 (by omega) (by omega) _ _ hc).1
 have k:a.1.kind=48∨a.1.kind=49∨a.1.kind=50∨a.1.kind=53:=by
  rw[G]
  by_cases A:h.kind=48
  ·exact .inl A
  by_cases B:h.kind=49
  ·exact .inr (.inl B)
  by_cases D:h.kind=50
  ·exact .inr (.inr (.inl D))
  by_cases J:h.kind=53
  ·exact .inr (.inr (.inr J))
  exact absurd ⟨A,B,D,J⟩ hk
 have H:fq a.1.mode a.1.uid a.1.gid a.1.time=true:=by simpa using N
 have M:a.1.kind=48∨t=[]:=by
  by_cases A:a.1.kind=48
  ·exact .inl A
  ·refine .inr (List.length_eq_zero_iff.1 ?_)
   have:a.1.size=0:=Decidable.of_not_not fun e=>hf ⟨A,e⟩
   rw[this]at ht
   simpa using ht
 have hlen:t.length≤1048576:=by omega
 have O:eh (bC 9 6 a.1.name).1=true:=by rw[eh,c1];simp
 have R:(a.1.kind==48||t==[])=true:=by rcases M with e|e<;>simp[e]
 simp only[bk,O,H,hlen,decide_true,R,Bool.true_and]
 by_cases A:a.1.kind=48∨a.1.kind=53
 ·rw[if_pos A,if_neg (by rcases A with e|e<;>rw[e]<;>decide),if_neg (by rcases A with e|e<;>rw[e]<;>decide)]
  rfl
 ·rw[if_neg A]
  by_cases B:a.1.kind=49
  ·have L:bC 9 6 a.1.link=((bC 9 6 a.1.link).1,0):=Prod.ext rfl (Decidable.of_not_not fun e=>hd ⟨B,e⟩)
   rw[if_pos B,if_pos B,eh,(mX 9 6 (by omega) (by omega) _ _ L).1];simp
  ·have D:a.1.kind=50:=by
    rcases k with e|e|e|e
    ·exact absurd (.inl e) A
    ·exact absurd e B
    ·exact e
    ·exact absurd (.inr e) A
   rw[if_neg B,if_neg B,if_pos D,if_pos D];exact decide_eq_true (Decidable.of_not_not fun e=>I ⟨D,e⟩)
theorem tv {s:RS} (h:dh l s=.fault e):e≠0:=by
 unfold dh at h;split at h
 ·cases h;omega
 split at h
 ·split at h
  ·cases h;omega
  split at h
  ·cases h;omega
  split at h
  ·cases h;omega
  ·cases h
 split at h
 ·rename_i A
  cases h;exact A
 split at h
 ·unfold iC at h
  split at h
  ·cases h;omega
  split at h
  ·cases h;omega
  split at h
  ·cases h;omega
  split at h
  ·cases h
  split at h
  ·cases h
  split at h
  ·rename_i A
   cases h;exact A
  split at h<;>cases h
 ·unfold oh at h
  split at h
  ·cases h;omega
  split at h
  ·cases h;omega
  split at h
  ·rename_i B hm
   cases h
   unfold om at hm;simp only at hm;split at hm
   ·rename_i A;cases hm;exact A
   split at hm
   ·rename_i A;cases hm;exact A
   split at hm
   ·cases hm;omega
   split at hm
   ·rename_i A;cases hm;exact A.2
   split at hm
   ·rename_i A;cases hm;exact A.2
   split at hm
   ·cases hm;omega
   split at hm
   ·cases hm;omega
   ·cases hm
  split at h
  ·cases h;omega
  ·cases h
theorem j8 (n:Nat):aP n % 512=0:=Nat.mul_mod_left _ _
theorem CL {s s':RS} (h:dh l s=.next k s') (hg:∀m∈s.out,bk m=true):k % 512=0∧∀m∈s'.out,bk m=true:=by
 unfold dh at h;split at h
 ·cases h
 split at h
 ·split at h
  ·cases h
  split at h
  ·cases h
  split at h<;>cases h
 split at h
 ·cases h
 split at h
 ·unfold iC at h
  split at h
  ·cases h
  split at h
  ·cases h
  split at h
  ·cases h
  rename_i t k' A;have hk:=(j9 A).1;have A:=j8 (aU (l.take 512)).1.size.toNat;split at h
  ·cases h;exact⟨by omega,hg⟩
  split at h
  ·cases h;exact⟨by omega,hg⟩
  split at h
  ·cases h
  split at h<;>(cases h;exact⟨by omega,hg⟩)
 ·unfold oh at h
  split at h
  ·cases h
  split at h
  ·cases h
  rename_i B;split at h
  ·cases h
  rename_i m n hm;split at h
  ·cases h
  rename_i t k' A;obtain⟨hk,_,D,_⟩:=j9 A;have A:=j8 n.toNat
  cases h
  refine⟨by omega,fun x hx=>?_⟩;rcases List.mem_append.1 hx with hx|hx
  ·exact hg x hx
  ·rw[List.mem_singleton.1 hx]
   exact B2 hm B (by rw[D,Qg];omega)
theorem Cq (N:Nat):∀(l:List UInt8) (at_:Nat) (s:RS),l.length≤N→at_ % 512=0→(∀m∈s.out,bk m=true)→∀ms e a,bu l at_ s=(ms,e,a)→
 (e≠0∧ms=[]∧a≤at_+l.length∧a % 512=0)∨(e=0∧a=0∧∀m∈ms,bk m=true):=by
 induction N with
 |zero=>
  intro l at_ s hl A B ms e a h;rw[eb (vF (by omega) s)]at h
  cases h
  exact .inl ⟨by omega,rfl,by omega,A⟩
 |succ N ih=>
  intro l at_ s hl A B ms e a h
  cases hs:dh l s with
  |fault f=>
   rw[eb hs]at h
   cases h
   exact .inl ⟨tv hs,rfl,by omega,A⟩
  |done=>
   rw[gr hs]at h
   cases h
   exact .inr ⟨rfl,rfl,B⟩
  |next k I=>
   rw[eF hs]at h;obtain⟨E,G⟩:=j3 hs;obtain⟨H,D⟩:=CL hs B;rcases ih _ _ _ (by rw[Qe];omega) (by omega) D _ _ _ h with⟨r1,r2,r3,r4⟩|r
   ·rw[Qe]at r3
    exact .inl ⟨r1,r2,by omega,r4⟩
   ·exact .inr r
theorem sG {ms:List aq} {a:Nat} (h:cn b=(ms,e,a)):(e≠0∧ms=[]∧a≤b.length∧a % 512=0)∨(e=0∧a=0∧∀m∈ms,bk m=true):=by
 have:=Cq b.length b 0 gd (Qk _) rfl (fun m hm=>by cases hm) ms e a h
 rwa [Nat.zero_add]at this
theorem zA {R T:Int} {k:List UInt8} {m:Nat} (h:cW R T l=.ok (k,v,m)):k.length+v.length≤l.length:=by
 unfold cW at h;split at h
 ·cases h
 ·split at h
  ·cases h
  ·dsimp only at h
   split at h
   ·cases h
   ·split at h
    ·cases h
    ·cases h
     simp only[Qg,Qe];omega
theorem Cu (R T:Int) (L:Nat):∀(n:Nat) (l:List UInt8) (acc:bM),l.length≤L→(∀r∈acc,r.1.length+r.2.length≤L)→acc.length+l.length≤L→(∀r∈(fV R T n l acc).1,r.1.length+r.2.length≤L)∧(fV R T n l acc).1.length≤L:=by
 intro n
 induction n with
 |zero=>intro l acc h1 A B;exact⟨A,by simp only[fV];omega⟩
 |succ n ih=>
  intro l acc h1 A B;rw[fV]
  by_cases hl:l=[]
  ·rw[if_pos hl];exact⟨A,by simp only;omega⟩
  ·rw[if_neg hl]
   cases hs:cW R T l with
   |error e=>exact⟨fun r hr=>by simp at hr,by simp⟩
   |ok x=>
    obtain⟨k,v,m⟩:=x;have D:=lM hs;have E:=zA hs;refine ih _ _ (by rw[Qe];omega) (fun r hr=>?_) (by rw[Qe,Qf,List.length_singleton];omega);rcases List.mem_append.1 hr with hr|hr
    ·exact A r hr
    ·rw[List.mem_singleton]at hr
     subst hr;show k.length+v.length≤L;omega
theorem pr (R T:Int) (l:List UInt8):(∀r∈(cu R T l).1,r.1.length+r.2.length≤l.length)∧(cu R T l).1.length≤l.length:=
 Cu R T l.length l.length l [] (Qk _) (fun r A=>by simp at A) (by simp)
theorem nu (l:List UInt8):(aC l).length≤l.length:=(List.takeWhile_sublist _).length_le
theorem MN (bs:List UInt8) (i:Nat):0≤dn bs i:=by
 unfold dn
 cases h:aX (au bs i)with
 |none=>exact Int.le_refl _
 |some r=>exact(Gj h).1
theorem o6 (bs:List UInt8) (i:Nat):(au bs i).length≤aj i:=by
 unfold au;rw[Qg];omega
theorem lf (bs:List UInt8):0≤(aU bs).1.size∧(aU bs).1.name.length≤1000∧(aU bs).1.link.length≤1000:=by
 unfold aU;split
 ·exact⟨by decide,by decide,by decide⟩
 ·split
  ·exact⟨by decide,by decide,by decide⟩
  ·split
   ·exact⟨by decide,by decide,by decide⟩
   ·split
    ·refine⟨MN bs 4,?_,?_⟩
     ·show(jX _ _ _).length≤1000
      have h1:=nu (au bs 10);have D:=nu (au bs 0);have A:=o6 bs 10;have E:=o6 bs 0;have B:aj 10≤400:=by decide
      have G:aj 0≤400:=by decide
      unfold jX;split
      ·omega
      ·simp only[Qf,List.length_cons];omega
     ·show(aC _).length≤1000
      have h1:=nu (au bs 8);have A:=o6 bs 8;have B:aj 8≤400:=by decide
      omega
    ·exact⟨by decide,by decide,by decide⟩
theorem EX (L:Nat) (hV:∀i,i<6→(V i).length≤L) (h0:0≤h.size) (h1:h.name.length≤L) (h2:h.link.length≤L):0≤(ew V h).1.size∧(ew V h).1.name.length≤L∧(ew V h).1.link.length≤L:=by
 unfold ew;split
 ·rename_i u g t s B D E A
  refine⟨?_,?_,?_⟩
  ·show 0≤s
   unfold dI at A;split at A
   ·cases A;exact h0
   ·simp only[Bool.false_eq_true,if_false]at A
    cases hw:cJ (V 3)with
    |none=>rw[hw]at A;cases A
    |some n=>rw[hw]at A;cases A;exact Int.natCast_nonneg n
  ·show(aB (V 4) h.name).length≤L
   unfold aB;split
   ·exact h1
   ·exact hV 4 (by omega)
  ·show(aB (V 5) h.link).length≤L
   unfold aB;split
   ·exact h2
   ·exact hV 5 (by omega)
 ·exact⟨by decide,Nat.zero_le _,Nat.zero_le _⟩
theorem yy {gs own:bM} {L:Nat} (h1:∀r∈gs,r.2.length≤L) (h2:∀r∈own,r.2.length≤L) (k:List UInt8):(dE (aD gs) own k).length≤L:=by
 unfold dE
 cases h:aD own k with
 |some v=>
  obtain⟨r,A,_,rfl⟩:=uV h;exact h2 r A
 |none=>
  cases B:aD gs k with
  |some v=>
   obtain⟨r,A,_,rfl⟩:=uV B
   simpa [B]using h1 r A
  |none=>simp
theorem BL (gs rs:bM):fr (aD gs) rs=aD (gs++rs):=by rw[←sJ,B3,sJ]
theorem G8:cT l=true↔∀x,x<l.length→l.getD x 0=0:=by
 unfold cT;rw[List.all_eq_true];constructor
 ·intro h x A
  rw[List.getD,Qd A]
  simpa using h _ (List.getElem_mem A)
 ·intro h x A
  obtain⟨i,hi,rfl⟩:=List.getElem_of_mem A;have:=h i hi;rw[List.getD,Qd hi]at this
  simpa using this
theorem zn (hl:l.length=512):(((aZ l 512:Nat):Int)==0)=cT l:=by
 rw[Bool.eq_iff_iff,G8,hl];rw[←oC];simp
def qL:aq:=⟨[],[],0,0,0,0,0,[]⟩
def nS (kind:UInt8) (link:List UInt8):List UInt8 × Int:=if kind=49 then bC 9 6 link else if kind=50 then(link,dP 9 6 link)else([],0)
def oI (kind:UInt8) (n:Int):Int:=if kind≠48∧n≠0 then 4 else if 1048576<n then 10 else 0
def cZ (h:ak):aq × Int:=
 if(bC 9 6 h.name).2≠0 then(qL,(bC 9 6 h.name).2)
 else if fq h.mode h.uid h.gid h.time=false then(qL,4)
 else if(nS h.kind h.link).2≠0 then(qL,(nS h.kind h.link).2)
 else if oI h.kind h.size≠0 then(qL,oI h.kind h.size)
 else(⟨(bC 9 6 h.name).1,(nS h.kind h.link).1,h.kind,h.mode,h.uid,h.gid,h.time,[]⟩,0)
def dN (h:ak) (s:RS):ak:={h with name:=s.name.getD h.name,link:=s.link.getD h.link}
theorem JP (h:ak) (s:RS):om h s=
 if(ch (aD s.cF) s.own (dN h s)).2≠0 then .error (ch (aD s.cF) s.own (dN h s)).2
 else if(cZ (ch (aD s.cF) s.own (dN h s)).1).2≠0 then .error (cZ (ch (aD s.cF) s.own (dN h s)).1).2
 else .ok ((cZ (ch (aD s.cF) s.own (dN h s)).1).1,(ch (aD s.cF) s.own (dN h s)).1.size):=by
 unfold om dN
 dsimp only
 generalize ch (aD s.cF) s.own _=a
 by_cases h1:a.2≠0
 ·rw[if_pos h1,if_pos h1]
 ·rw[if_neg h1,if_neg h1]
  unfold cZ
  by_cases H:(bC 9 6 a.1.name).2≠0
  ·simp only[if_pos H]
  ·simp only[if_neg H]
   by_cases I:fq a.1.mode a.1.uid a.1.gid a.1.time=false
   ·simp only[if_pos I];rfl
   ·simp only[if_neg I]
    unfold nS oI
    by_cases D:a.1.kind=49
    ·have E:¬a.1.kind=50:=by rw[D];decide
     have G:a.1.kind≠48:=by rw[D];decide
     by_cases B:(bC 9 6 a.1.link).2=0
     ·by_cases A:a.1.size=0
      ·simp[D,B,A]
      ·simp[D,B,A]
     ·simp[D,B]
    ·by_cases E:a.1.kind=50
     ·by_cases B:dP 9 6 a.1.link=0
      ·by_cases A:a.1.size=0
       ·simp[E,B,A]
       ·simp[E,B,A]
      ·simp[E,B]
     ·by_cases G:a.1.kind=48
      ·by_cases J:1048576<a.1.size
       ·simp[G,J]
       ·simp[G,J]
      ·by_cases A:a.1.size=0
       ·simp[D,E,G,A]
       ·simp[D,E,G,A]
def fp (k:UInt8):Bool:=k==48||k==49||k==50||k==53
def kj (m:aq):ak:=⟨m.path,m.target,m.kind,m.mode,m.uid,m.gid,m.time,(m.body.length:Int),false⟩
theorem IV (m:aq):bk m=(fp m.kind&&decide ((cZ (kj m)).2=0)&&decide ((cZ (kj m)).1.path=m.path)&&decide ((cZ (kj m)).1.target=m.target)):=by
 rw[Bool.eq_iff_iff];unfold bk fp cZ kj eh nS oI;simp only[Bool.and_eq_true,Bool.or_eq_true,decide_eq_true_eq,beq_iff_eq];obtain⟨⟨T,ce⟩,hc⟩:∃x,bC 9 6 m.path=x:=⟨_,rfl⟩
 obtain⟨⟨U,N⟩,hd⟩:∃x,bC 9 6 m.target=x:=⟨_,rfl⟩
 rw[hc,hd];have R:((m.body.length:Int)=0)↔m.body=[]:=by rw[←List.length_eq_zero_iff];omega
 have M:(1048576<(m.body.length:Int))↔1048576<m.body.length:=by omega
 have V:m.body=[]→¬1048576<m.body.length:=fun h=>by rw[h];simp
 simp only[Prod.mk.injEq,ne_eq,R,M]
 by_cases h1:ce=0
 ·by_cases J:fq m.mode m.uid m.gid m.time=false
  ·simp[h1,J,qL]
  ·have A:fq m.mode m.uid m.gid m.time=true:=by simpa using J
   by_cases H:m.kind=48
   ·by_cases L:1048576<m.body.length
    ·simp[h1,A,H,L]
     intro _ _;omega
    ·have O:m.body.length≤1048576:=by omega
     simp[h1,A,H,L,O,@eq_comm _ [] m.target]
   ·by_cases E:m.kind=49
    ·by_cases D:N=0
     ·by_cases B:m.body=[]
      ·simp[h1,A,E,D,B]
      ·simp[h1,A,E,D,B]
     ·simp[h1,A,E,D]
    ·by_cases G:m.kind=50
     ·by_cases D:dP 9 6 m.target=0
      ·by_cases B:m.body=[]
       ·simp[h1,A,G,D,B]
       ·simp[h1,A,G,D,B]
      ·simp[h1,A,G,D]
     ·by_cases I:m.kind=53
      ·by_cases B:m.body=[]
       ·simp[h1,A,I,B,@eq_comm _ [] m.target]
       ·simp[h1,A,I,B]
      ·simp[H,E,G,I]
 ·simp[h1]
end Mem
namespace fb
open Mem
variable {a c:List UInt8}
def dF (a b:List UInt8):Bool:=Op.bytesLess a b
theorem xj (b:List UInt8):dF b []=false:=by cases b<;>rfl
theorem sD (a b:UInt8) (x y:List UInt8):dF (a::x) (b::y)=(decide (a<b)||(a==b&&dF x y)):=rfl
theorem iP (a:List UInt8):dF a a=false:=by
 induction a with
 |nil=>rfl
 |cons b l ih=>rw[sD,ih];simp
theorem fP (a:List UInt8):∀b c,dF a b=true→dF b c=true→dF a c=true:=by
 induction a with
 |nil=>intro b c h1 A
       cases c with
       |nil=>rw[xj]at A;cases A
       |cons c z=>rfl
 |cons a x ih=>
  intro b c h1 A
  cases b with
  |nil=>rw[xj]at h1;cases h1
  |cons b y=>
   cases c with
   |nil=>rw[xj]at A;cases A
   |cons c z=>
    rw[sD]at h1 A⊢;simp only[Bool.or_eq_true,decide_eq_true_eq,Bool.and_eq_true,beq_iff_eq]at h1 A⊢;rcases h1 with h1|⟨rfl,h1⟩
    ·rcases A with A|⟨rfl,A⟩
     ·exact .inl (UInt8.lt_trans h1 A)
     ·exact .inl h1
    ·rcases A with A|⟨rfl,A⟩
     ·exact .inl A
     ·exact .inr ⟨rfl,ih y z h1 A⟩
theorem DN (a:List UInt8):∀b,dF a b=false→dF b a=false→a=b:=by
 induction a with
 |nil=>
  intro b h1 A
  cases b with
  |nil=>rfl
  |cons b y=>exact absurd h1 (by simp[dF,Op.bytesLess])
 |cons a x ih=>
  intro b h1 A
  cases b with
  |nil=>exact absurd A (by simp[dF,Op.bytesLess])
  |cons b y=>
   rw[sD]at h1 A;simp only[Bool.or_eq_false_iff,decide_eq_false_iff_not]at h1 A
   have B:a=b:=by
    apply UInt8.le_antisymm
    ·exact UInt8.not_lt.1 A.1
    ·exact UInt8.not_lt.1 h1.1
   subst B;have D:dF x y=false:=by simpa using h1.2
   have E:dF y x=false:=by simpa using A.2
   rw[ih y D E]
theorem oe (h:dF a b=true):dF b a=false:=by
 cases A:dF b a with
 |false=>rfl
 |true=>have:=fP a b a h A;rw[iP]at this;cases this
theorem sE (h:dF a b=true):a≠b:=fun e=>by subst e;rw[iP]at h;cases h
theorem ko (h:dF a b=false) (cE:a≠b):dF b a=true:=by
 cases A:dF b a with
 |true=>rfl
 |false=>exact absurd (DN a b h A) cE
theorem xi (h:dF b a=false) (h2:dF b c=true):dF a c=true:=by
 by_cases e:a=b
 ·rw[e];exact h2
 ·exact fP a b c (ko h (fun x=>e x.symm)) h2
theorem xk (h:dF a b=true) (h2:dF c b=false):dF a c=true:=by
 by_cases e:b=c
 ·rw[←e];exact h
 ·exact fP a b c h (ko h2 (fun x=>e x.symm))
structure av where
 path:List UInt8
 target:List UInt8
 ai:List UInt8
 kind:UInt8
 mode:Int
 uid:Int
 gid:Int
 time:Int
 body:List UInt8
deriving instance DecidableEq for av
def bL:av:=⟨[],[],[],0,0,0,0,0,[]⟩
def av.mem (x:av):aq:=⟨x.path,x.target,x.kind,x.mode,x.uid,x.gid,x.time,x.body⟩
def Qn (a b:av):Bool:=decide (a.mem=b.mem)
theorem DT {a b:av} (h:a.mem=b.mem) (hl:a.ai=b.ai):a=b:=by
 cases a;cases b
 simp only[av.mem,aq.mk.injEq]at h
 simp_all
def fE (p:List UInt8) (m:aq) (l:List UInt8):av:=⟨p,m.target,l,m.kind,m.mode,m.uid,m.gid,m.time,m.body⟩
def bQ:aq:=⟨[],[],0,0,0,0,0,[]⟩
abbrev St:=List (List UInt8 × Nat)
def look (S:St) (p:List UInt8):Option Nat:=(S.find? fun e=>e.1==p).map (·.2)
def iW (S:St) (p:List UInt8) (n:Nat):St:=S.filter (fun e=>!(e.1==p))++[(p,n)]
def iM (ms:List aq) (S:St) (i:Nat):Option St:=
 let m:=ms.getD i bQ
 if m.kind=49 then
  match look S m.target with
  |none=>none
  |some n=>if(ms.getD n bQ).kind=48 then some (iW S m.path n)else none
 else some (iW S m.path i)
def cR (ms:List aq):Nat→Except Nat St
 |0=>.ok []
 |k+1=>match cR ms k with
  |.error i=>.error i
  |.ok S=>match iM ms S k with
   |none=>.error k
   |some S'=>.ok S'
def iN (T:St) (n:Nat):List UInt8:=((T.find? fun e=>e.2==n).map (·.1)).getD []
def ft (ms:List aq) (T:St) (e:List UInt8 × Nat):av:=
 fE e.1 (ms.getD e.2 bQ) (if(ms.getD e.2 bQ).kind=48 then iN T e.2 else[])
def JH (a b:List UInt8 × Nat):Bool:=!dF b.1 a.1
def ef (S:St):St:=S.mergeSort JH
def dQ (ms:List aq) (S:St):List av:=(ef S).map (ft ms (ef S))
def ej (ms:List aq):List av × Int × Nat:=
 match ms.findIdx? (fun m=>!bk m)with
 |some i=>([],1,i)
 |none=>match cR ms ms.length with
  |.error i=>([],7,i)
  |.ok S=>(dQ ms S,0,0)
def eP (t:List av) (p:List UInt8):Option av:=t.find? fun x=>x.path==p
def Me (o:Option av) (x:av):Bool:=
 match o with
 |none=>false
 |some y=>decide (y.kind=48)&&(decide (y.ai=y.path)&&(decide (y.mode=x.mode∧y.uid=x.uid∧y.gid=x.gid∧y.time=x.time)&&decide (y.body=x.body)))
def ph (t:List av) (x:av):Bool:=
 if x.kind=48 then Me (eP t x.ai) x else decide (x.ai=[])
def jg (x:av):Bool:=decide (x.kind≠49)&&bk x.mem
def iG (t:List av) (i:Nat):Bool:=
 let x:=t.getD i bL
 (jg x&&(decide (i=0)||dF (t.getD (i - 1) bL).path x.path))&&ph (t.take (i+1)) x
def bF (t:List av):Bool:=decide (t.length≤4096)&&(List.range t.length).all (iG t)
def dL (t:List av):Prop:=t.Pairwise fun a b=>dF a.path b.path=true
end fb
namespace Mem
open Go.Lib Fp Hp Path Rec Attr
variable {m:aq}
theorem J6 (h:cG m):(fB m).length % 512=0∧512+aP m.body.length≤(fB m).length:=by
 have D:=j8 m.body.length;have hl:=j8 (aI (aJ m)).length;obtain⟨H,_,A,_,(⟨_,e⟩|⟨X,_,B,_,e⟩)⟩:=jZ h
 ·rw[e,Qf,bp,A];omega
 ·rw[e,Qf,Qf,Qf,bp,bp,A,B];omega
theorem Gu (h:cG m):∃H,eE (aV m)=some H∧H.length=512∧
 ((aJ m=[]∧fB m=H++jY m.body)∨(aJ m≠[]∧∃X,eE (xo (aI (aJ m)).length)=some X∧X.length=512∧fB m=X++jY (aI (aJ m))++(H++jY m.body))):=by
 obtain⟨H,h1,D,_⟩:=uN h;refine⟨H,h1,D,?_⟩
 by_cases A:aJ m=[]
 ·refine .inl ⟨A,?_⟩
  rw[fB,A,if_pos (show aI []=[]from rfl),h1];rfl
 ·obtain⟨X,B,E,_⟩:=zm (jV h)
  refine .inr ⟨A,X,B,E,?_⟩;rw[fB,if_neg (fun e=>A (uY (fW h) e)),h1,B];rfl
def Cl (m:aq):Bool:=
 decide (m.path.length≤100)&&(decide (m.target.length≤100)&&(decide (m.uid≤2097151)&&(decide (m.gid≤2097151)&&(decide (m.time≤8589934591)&&(jO m.path&&jO m.target)))))
theorem Cm (h:Cl m=true):aJ m=[]:=by
 unfold Cl at h;simp only[Bool.and_eq_true,decide_eq_true_eq]at h;obtain⟨h1,E,I,J,L,G,H⟩:=h;have B:gS m=false:=by unfold gS;rw[mZ h1,G];rfl
 have D:fD m=false:=by
  unfold fD;rw[H]
  simpa using E
 unfold aJ;rw[B,D];have A:¬2097151<m.uid:=by omega
 have a2:¬2097151<m.gid:=by omega
 have a3:¬8589934591<m.time:=by omega
 simp[A,a2,a3]
theorem Co (h:cG m) (hp:Cl m=true):(fB m).length=512+aP m.body.length:=by
 have B:=Cm hp;obtain⟨H,_,A,_,_⟩:=jZ h
 have e:fB m=(eE (aV m)).getD []++jY m.body:=by
  unfold fB;rw[B,if_pos (show aI []=[]from rfl),List.nil_append]
 obtain⟨H,h1,A,_,_⟩:=jZ h;rw[e,h1,Qf,bp];show H.length+_=_;rw[A]
theorem GO {s s':RS} (h:dh l s=.next k s') (hg:s.out.length≤4096):s'.out.length≤4096:=by
 unfold dh at h;split at h
 ·cases h
 ·split at h
  ·split at h
   ·cases h
   ·split at h
    ·cases h
    ·split at h<;>cases h
  ·split at h
   ·cases h
   ·split at h
    ·unfold iC at h
     split at h
     ·cases h
     ·split at h
      ·cases h
      ·split at h
       ·cases h
       ·split at h
        ·cases h;exact hg
        ·split at h
         ·cases h;exact hg
         ·split at h
          ·cases h
          ·split at h<;>(cases h;exact hg)
    ·unfold oh at h
     split at h
     ·cases h
     ·split at h
      ·cases h
      ·split at h
       ·cases h
       ·split at h
        ·cases h
        ·cases h
         simp only[Qf,List.length_singleton];omega
theorem Gw (N:Nat):∀(l:List UInt8) (at_:Nat) (s:RS),l.length≤N→s.out.length≤4096→(bu l at_ s).1.length≤4096:=by
 induction N with
 |zero=>
  intro l at_ s hl A;rw[eb (vF (by omega) s)];simp
 |succ N ih=>
  intro l at_ s hl A
  cases hs:dh l s with
  |fault f=>rw[eb hs];simp
  |done=>rw[gr hs];exact A
  |next k E=>
   rw[eF hs];obtain⟨B,D⟩:=j3 hs;exact ih _ _ _ (by rw[Qe];omega) (GO hs A)
theorem mH (b:List UInt8):(cn b).1.length≤4096:=Gw b.length b 0 gd (Qk _) (by show(0:Nat)≤4096;omega)
end Mem
namespace Rec
open Go.ChangeShapes Go.WideShapes Go.ChangeAt Go.RowKit Go.Shelf Base bJ cr Path Go.Lib
variable {w w':World}
def Need (w:World):Prop:=Path.Tabs w∧(∃tp p,w.var? Tryz.prog "strconv.ErrSyntax"=some #[.iface tp p])∧Lib.TabIs Tryz.prog w "internal/strconv.uint64pow10" .u64 Lib.pow10Tab
theorem vM {P:Program} {n:String} {cs:Array Value} (h:w.var? P n=some cs) (hb:Below w.heap.size w w'):w'.var? P n=some cs:=by
 unfold World.var? at h⊢
 cases A:P.globalNamed n with
 |none=>simp[A]at h
 |some g=>
  simp only[A,Option.bind_some]at h⊢
  have B:g<w.heap.size:=by
   rcases Nat.lt_or_ge g w.heap.size with h'|h'
   ·exact h'
   ·simp[Array.getElem?_eq_none h']at h
  rw[hb.block g B];exact h
theorem Need.below (h:Need w) (hb:Below w.heap.size w w'):Need w':=
 ⟨h.1.below hb,by obtain⟨B,p,A⟩:=h.2.1;exact⟨B,p,vM A hb⟩,vM h.2.2 hb⟩
theorem Need.xD (h:Need w):Path.Tabs w:=h.1
end Rec
namespace Wr
open Go.ChangeShapes Go.WideShapes Go.ChangeAt Go.RowKit Base bJ cr Mem Go.Lib
theorem Tn (s:ByteArray) (k:Nat) (hk:k<s.size):s[k]=s.data.toList.getD k 0:=by
 have h:k<s.data.toList.length:=by simpa using hk
 rw[List.getD,Qd h];rfl
theorem Gq (s:ByteArray) (w:World) (hm:s.size≤140737488351232):
 Calls Tryz.prog 122 #[.string s] w fun e w'=>e=.returned (.bool (jO s.data.toList))∧Below w.heap.size w w':=by
 have M:Hid (s.data.toList.length=s.size):=Qh (by simp);have I:Hid (∀pos,Below w.heap.size w (w.iter s pos)):=Qh (fun pos=>(Below.refl _ _).alloc (Qk _) _)
 go_enter Tryz.func122,Tryz.ntmps122
 go_wp2
 go_loopw [2] (fun r wr=>r=.bool false∧∃(pos:Nat),wr=w.iter s pos∧pos≤s.size∧Hid (∀x∈s.data.toList.take pos,x.toNat≤127)) (fun _ wr=>s.size - wr.iterPos w.heap.size)
 case atStart=>exact⟨rfl,0,rfl,Nat.zero_le _,Qh (by simp)⟩
 case round=>
  obtain⟨rfl,pos,rfl,V,L⟩:=hrel
  by_cases A:pos<s.size
  ·have B:pos<s.data.toList.length:=by rw[M.out];exact A
   have J:Hid ((s[pos]).toNat=(s.data.toList.getD pos 0).toNat):=Qh (by rw[Tn s pos A])
   have O:Hid (s.data.toList.take (pos+1)=s.data.toList.take pos++[s.data.toList.getD pos 0]):=Qh (by
    rw[List.take_succ_eq_append_getElem B,List.getD,Qd B];rfl)
   have N:Hid (s.data.toList.getD pos 0∈s.data.toList):=Qh (by
    rw[List.getD,Qd B];exact List.getElem_mem B)
   by_cases H:(s[pos]).toNat<128
   ·have D:=fun ty=>run_next_ascii (P:=Tryz.prog) w s pos ty A H
    have R:¬(127:Int)<((s[pos]).toNat:Int):=by omega
    go_wp2;go_roundw
    case rel=>exact⟨rfl,pos+1,rfl,by omega,Qh (fun y hy=>by
     rw[O.out,List.mem_append]at hy;rcases hy with hy|hy
     ·exact L.out y hy
     ·simp only[List.mem_singleton]at hy
      subst hy;have T:=J.out
      omega)⟩
    case measure=>simp;omega
   ·have D:=fun ty=>run_next_any (P:=Tryz.prog) w s pos ty A
    have hd:=decode_high s pos A (by omega);obtain⟨r,k,G⟩:∃r k,Utf8.decode s pos=(r,k):=⟨_,_,rfl⟩
    rw[G]at hd;simp only[G]at D;obtain⟨U,_⟩:=hd;have R:(127:Int)<(r:Int):=by omega
    have E:Hid (jO s.data.toList=false):=Qh (by
     unfold jO;rw[Bool.eq_false_iff];intro h;have:=of_decide_eq_true (List.all_eq_true.1 h _ N.out);have T:=J.out
     omega)
    clear G;go_wp2;go_ret;rw[E.out];exact⟨rfl,I.out _⟩
  ·have D:=fun ty=>run_next_end (P:=Tryz.prog) w s pos ty A
   have E:Hid (jO s.data.toList=true):=Qh (by
    unfold jO;rw[List.all_eq_true];intro x H
    exact decide_eq_true (L.out x (by rw[List.take_of_length_le (by rw[M.out];omega)];exact H)))
   go_wp2;go_ret;rw[E.out];exact⟨rfl,I.out _⟩
end Wr
namespace Rec
open Go.ChangeShapes Go.WideShapes Go.ChangeAt Go.RowKit Go.Shelf Base bJ cr Path Go.Lib
theorem AK (w:World) (k:Nat) (os:Array Obj):Below w.heap.size w (Sort.grow (w.drewN k) os):=
 ⟨rfl,rfl,rfl,by rw[Sort.size_grow];show w.heap.size≤w.heap.size+os.size;omega,fun j A=>by
  show(w.heap++os)[j]? =w.heap[j]?
  rw[Array.getElem?_append_left A]⟩
theorem yO (m:Nat) (w:World) (hm:m≤9223372036854775807) (hN:Need w):
 Calls Tryz.prog 124 #[.int .i64 (m:Int)] w fun e w'=>e=.returned (.string (str (aG m)))∧Below w.heap.size w w':=by
 refine(Any.strconv_Itoa Tryz.JE (m:Int) (by omega) (by omega) w hN.2.2).mono ?_;rintro e w' ⟨rfl,k,os,rfl⟩;rw[FQ];exact⟨rfl,AK w k os⟩
theorem xq (m:Nat) (w:World) (h0:0<m) (hm:m≤1000000000000000) (hN:Need w):
 Calls Tryz.prog 156 #[.int .i64 (m:Int)] w fun e w'=>e=.returned (.string (str (aG (gC m))))∧Below w.heap.size w w':=by
 have I:=Qh (yV m h0);have f:=Qh hN;have W:∀n,n<1000000000000000000→(aG n).length≤18:=fun n h=>kX n 18 (by omega) h
 have Z:=Qh W;have R:=Qh (fg m);have r:(m:Int)≤1000000000000000:=by omega
 have O:=Qh hm;clear hN W hm h0
 go_enter Tryz.func156,Tryz.ntmps156
 go_wp2_with fail
 go_loopw [3] (fun s wr=>∃(S:ByteArray),s=.string S∧S.size≤18∧Hid (S=str []∨S=str (aG m)∨(S=str (aG (m+(aG m).length))∧(aG (m+(aG m).length)).length≠(aG m).length))∧Hid (Below w.heap.size w wr)) (fun s _=>match s with|.string b=>(if b.size=0 then 2 else if b.size=(aG m).length then 1 else 0)|_=>0)
 case atStart=>exact⟨str [],rfl,by rw[aA];simp,Qh (.inl rfl),Qh (Below.refl _ _)⟩
 case round=>
  obtain⟨S,rfl,l,Y,E⟩:=hrel;obtain⟨d,hd⟩:∃d,S.size=d:=⟨_,rfl⟩
  have o:(d:Int)≤18:=by omega
  obtain⟨X,H⟩:∃X,X=str (aG (m+d)):=⟨_,rfl⟩
  have J:=Qh H
  have N:Hid (Calls Tryz.prog 124 #[.int .i64 ((m:Int)+(d:Int))] wr fun e w'=>e=.returned (.string X)∧Below wr.heap.size wr w'):=Qh (by
   have:=yO (m+d) wr (by have:=O.out;omega) (f.out.below E.out);rw[H]
   rwa [show((m+d:Nat):Int)=(m:Int)+(d:Int) by omega]at this)
  have L:Hid (X.size=(aG (m+d)).length):=Qh (by rw[H,aA]);have g:Hid (X.size≤18):=Qh (by rw[L.out];exact Z.out _ (by have:=O.out;omega));have U:=Qh hd;clear H l
  by_cases G:X.size=d
  ·have p:((X.size:Int)==(d:Int))=true:=by rw[G];simp
   have c:Hid (X=str (aG (gC m))):=Qh (by
    have B:=L.out;have t:=R.out;have A:=U.out;rw[J.out]
    congr 2
    rcases Y.out with e|e|⟨e,ne⟩
    ·rw[e,aA]at A
     obtain rfl:d=0:=by simpa using A.symm
     rw[Nat.add_zero]at B;omega
    ·rw[e,aA]at A
     rw[G,←A]at B;rcases I.out with⟨l1,l2⟩|⟨l1,l2,l3⟩
     ·rw[l1,←A]
     ·exact absurd B.symm l2
    ·rw[e,aA]at A
     rcases I.out with⟨l1,l2⟩|⟨l1,l2,l3⟩
     ·exact absurd l2 ne
     ·rw[l1,←A])
   clear G;go_wp2_with fail;refine N.out.mono ?_;rintro e u ⟨rfl,D⟩;have M:=Qh (E.out.trans (D.mono E.out.size));clear D;go_wp2;go_ret;exact⟨by rw[c.out];rfl,M.out⟩
  ·have p:((X.size:Int)==(d:Int))=false:=by rw[beq_eq_false_iff_ne];omega
   have T:=Qh G
   have V:Hid (S=str []∧X=str (aG m)∨S=str (aG m)∧(X=str (aG (m+(aG m).length))∧(aG (m+(aG m).length)).length≠(aG m).length)):=Qh (by
    have B:=L.out;have A:=U.out;rcases Y.out with e|e|⟨e,ne⟩
    ·rw[e,aA]at A
     obtain rfl:d=0:=by simpa using A.symm
     exact .inl ⟨e,by rw[J.out,Nat.add_zero]⟩
    ·rw[e,aA]at A
     refine .inr ⟨e,by rw[J.out,A],?_⟩;rw[A,←B];exact T.out
    ·rw[e,aA]at A
     rcases I.out with⟨l1,l2⟩|⟨l1,l2,l3⟩
     ·exact absurd l2 ne
     ·rw[A]at l3
      exact absurd (B.trans l3) T.out)
   clear G;go_wp2_with fail;refine N.out.mono ?_;rintro e u ⟨rfl,D⟩;have M:=Qh (E.out.trans (D.mono E.out.size));clear D;go_wp2_with fail;go_roundw
   case rel=>exact⟨X,rfl,g.out,Qh (by
    rcases V.out with⟨_,e⟩|⟨_,e⟩
    ·exact .inr (.inl e)
    ·exact .inr (.inr e)),M⟩
   case measure=>
    have t:=R.out;rcases V.out with⟨e1,e2⟩|⟨e1,e2,ne⟩
    ·rw[e1,e2]
     simp only[aA,List.length_nil,if_true];rw[if_neg (by omega)];omega
    ·have q:=kY (show m≤m+(aG m).length by omega)
     rw[e1,e2];simp only[aA,if_true];rw[if_neg (by omega),if_neg ne,if_neg (by omega)];omega
end Rec
namespace Rec
open Go.ChangeShapes Go.WideShapes Go.ChangeAt Go.RowKit Go.Shelf Base bJ cr Path qR Go.Lib
theorem Gr (l:List UInt8) (w:World) (h1:1≤l.length) (h2:l.length≤7) (hN:Need w):
 Calls Tryz.prog 207 #[.string (str l),.int .i64 10,.int .i64 64] w fun e w'=>
  ∃(u:Nat) (x:Value),e=.returned (.tuple #[.int .u64 (u:Int),x])∧Below w.heap.size w w'∧
   ((l.all aW=true∧u=gh l∧x=.nilIface)∨(l.all aW=false∧u=0∧∃t y,x=.iface t y)):=by
 have A:=Gk l h1 (by omega);have hs:(str l).size=l.length:=aA l
 cases hd:l.all aW with
 |true=>
  rw[hd,if_pos rfl]at A;refine(Any.strconv_ParseUint_10_at64_ok Tryz.JF (str l) (by omega) (gh l) (by rw[bg];exact A) w).mono ?_;rintro e w' ⟨rfl,hw⟩;refine⟨gh l,.nilIface,rfl,?_,.inl ⟨rfl,rfl,rfl⟩⟩;rcases hw with rfl|rfl
  ·exact Below.refl _ _
  ·exact vG w _ _
 |false=>
  rw[hd,if_neg (by simp)]at A;obtain⟨E,p,D⟩:=hN.2.1;refine(Any.strconv_ParseUint_10_at64_syntax_var Tryz.JF (str l) (by omega) (by rw[bg];exact A) E p w D).mono ?_;rintro e w' ⟨N,rfl,_,_,B⟩;exact⟨0,_,rfl,B,.inr ⟨rfl,rfl,_,_,rfl⟩⟩
theorem td (p:Option Addr) (n c:Nat) (bs:List UInt8) (w:World) (hn:bs.length=n) (hm:n≤1000000000000) (h:cj w p n bs) (hN:Need w):
 Calls Tryz.prog 180 #[.slice p n c] w fun e w'=>e=.returned (tF (lE bs))∧Below w.heap.size w w':=by
 have mixed:Tryz.prog.follows .mixedOrders=true:=by kernel_rfl
 by_cases T:1≤n∧n≤7
 ·have hi:Ht (n:Int) 1 7=true:=fj (by omega) (by omega)
  obtain⟨b,o,rfl,hc⟩:=h (by omega);have J:=hc 0 (by omega);rw[Nat.add_zero]at J;obtain⟨C,B⟩:∃C:Nat,(bs.getD 0 0).toNat=C:=⟨_,rfl⟩
  rw[B]at J;have U:(0:Int)<(n:Int):=by omega
  by_cases A:bs.getD 0 0=48
  ·have e:lE bs=none:=by unfold lE;rw[if_pos (.inr (.inr A))]
   rw[e];have R:((C:Int)==48)=true:=by rw[←B,A];rfl
   clear h hN hc A B e hn
   go_enter Tryz.func180,Tryz.ntmps180
   go_wp2_with (go_at_call 152;refine(kl _ _ _ _).mono ?_;rw[hi];rintro e N ⟨rfl,rfl⟩)
   go_ret2;exact⟨rfl,Below.refl _ _⟩
  ·have R:((C:Int)==48)=false:=by
    rw[beq_eq_false_iff_ne];intro e;refine A (UInt8.toNat_inj.1 ?_);rw[B];show C=48;omega
   have O:=Qh (Gr bs w (by omega) (by omega) hN);have cs:=cK h hn 26 5 9 Tryz.underlying26 Tryz.underlying5 Tryz.underlying9 c
   have M:Hid (lE bs=if bs.all aW then some (gh bs)else none):=Qh (by
    unfold lE
    rw[if_neg (by
     rintro(e|e|e)
     ·omega
     ·omega
     ·exact A e)])
   have H:Hid (bs.all aW=true→gh bs<10000000):=Qh (fun hd=>by
    have V:=D9 bs (List.all_eq_true.1 hd);have W:10 ^ bs.length≤10 ^ 7:=Nat.pow_le_pow_right (by omega) (by omega);have X:(10:Nat) ^ 7=10000000:=by decide
    omega)
   clear h hN hc A B hn
   go_enter Tryz.func180,Tryz.ntmps180
   go_wp2_with (go_at_call 152;refine(kl _ _ _ _).mono ?_;rw[hi];rintro e N ⟨rfl,rfl⟩)
   rw[show(⟨bs.toArray⟩:ByteArray)=str bs from rfl]
   go_at_call 207
   refine O.out.mono ?_;rintro e Z ⟨u,x,rfl,E,(⟨hd,rfl,rfl⟩|⟨hd,rfl,t,y,rfl⟩)⟩
   ·have hu:=H.out hd
    have D:Hid (lE bs=some (gh bs)):=Qh (by rw[M.out,hd];rfl);obtain⟨u,L⟩:∃u,gh bs=u:=⟨_,rfl⟩
    rw[L]at hu D⊢;have Y:IntKind.i64.wrap (u:Int)=(u:Int):=by rw[IntKind.wrap_i64];omega
    have G:=Qh E;clear E hd L cs H;go_wp2_with fail
    go_quiet (fail)
    have I:=Qh (below_drewN G.out nq);go_wp2;go_ret2;rw[D.out];exact⟨rfl,I.out⟩
   ·have D:Hid (lE bs=none):=Qh (by rw[M.out,hd];rfl)
    have G:=Qh E;clear E hd cs H;go_wp2_with fail
    go_quiet (fail)
    have I:=Qh (below_drewN G.out nq);go_wp2;go_ret2;rw[D.out];exact⟨rfl,I.out⟩
 ·have hi:Ht (n:Int) 1 7=false:=iu (by omega)
  have e:lE bs=none:=by unfold lE;rw[if_pos (by omega)]
  rw[e];clear h hN e hn T
  go_enter Tryz.func180,Tryz.ntmps180
  go_wp2_with (go_at_call 152;refine(kl _ _ _ _).mono ?_;rw[hi];rintro e N ⟨rfl,rfl⟩)
  go_ret2;exact⟨rfl,Below.refl _ _⟩
theorem F8 (w:World) (t:TypeId) (x:Int):(w.alloc (.cells #[.int .u8 x] t (1,2))).cell? ⟨w.heap.size,0,none⟩=some (.int .u8 x):=by
 rw[World.cell?_alloc_mark];rfl
theorem uA (b o n c b2:Nat) (bs:List UInt8) (w:World) (hn:bs.length=n) (hc:n≤c) (hm:n≤1000000000000) (h:cj w (some ⟨b,o,none⟩) n bs) (h2:w.cell? ⟨b2,0,none⟩=some (.int .u8 32)):
 Calls Tryz.prog 109 #[.slice (some ⟨b,o,none⟩) n c,.slice (some ⟨b2,0,none⟩) 1 1] w fun e w'=>e=.returned (Lib.cutV (some ⟨b,o,none⟩) n c 1 (Lib.indexByte bs 32))∧∃q,w'=w.drewN q:=by
 have B:bytesOf (nums bs)=bs:=gY bs
 have A:=Any.bytes_Index_one Tryz.jh.index b o n c b2 0 1 (nums bs) 32 w (by rw[eU,hn]) (fun i hi=>by
  obtain⟨G,I,he,hcell⟩:=h (by omega)
  cases he
  rw[hcell i hi]
  simp[nums,List.getD,Qd (show i<bs.length by omega)]) h2
 rw[B,show(32:Int).toNat.toUInt8=32 from rfl]at A
 have D:0≤Lib.indexByte bs 32→Lib.indexByte bs 32+(1:Nat)≤n:=fun H=>by
  obtain⟨k,hk⟩:∃k:Nat,Lib.indexByte bs 32=k:=⟨(Lib.indexByte bs 32).toNat,by omega⟩
  have:=(Lib.indexByte_some hk).1;have E:=(List.getElem?_eq_some_iff.1 this).1;omega
 exact Any.bytes_Cut_of Tryz.jh (some ⟨b,o,none⟩) (some ⟨b2,0,none⟩) n c 1 1 (Lib.indexByte bs 32) w hc (Lib.indexByte_ge _ _) D (by omega) (A.mono fun e w' he=>⟨he.1,0,he.2⟩)
theorem Lv (b o n c b2:Nat) (bs:List UInt8) (w:World) (hn:bs.length=n) (hc:n≤c) (hm:n≤1000000000000) (h:cj w (some ⟨b,o,none⟩) n bs) (h2:w.cell? ⟨b2,0,none⟩=some (.int .u8 32)) (hi:Lib.indexByte bs 32<0):
 Calls Tryz.prog 109 #[.slice (some ⟨b,o,none⟩) n c,.slice (some ⟨b2,0,none⟩) 1 1] w fun e w'=>e=.returned (.tuple #[.slice (some ⟨b,o,none⟩) n c,.slice none 0 0,.bool false])∧∃q,w'=w.drewN q:=by
 have:=uA b o n c b2 bs w hn hc hm h h2;unfold Lib.cutV at this
 rwa [if_neg (by omega)]at this
theorem qU (b o n c b2 i r:Nat) (bs:List UInt8) (w:World) (hn:bs.length=n) (hc:n≤c) (hm:n≤1000000000000) (h:cj w (some ⟨b,o,none⟩) n bs) (h2:w.cell? ⟨b2,0,none⟩=some (.int .u8 32)) (hi:Lib.indexByte bs 32=(i:Int)) (hr:n=i+1+r):
 Calls Tryz.prog 109 #[.slice (some ⟨b,o,none⟩) n c,.slice (some ⟨b2,0,none⟩) 1 1] w fun e w'=>∃q2 c2,e=.returned (.tuple #[.slice (some ⟨b,o,none⟩) i c,.slice q2 r c2,.bool true])∧r≤c2∧cj w' q2 r (bs.drop (i+1))∧∃q,w'=w.drewN q:=by
 refine(uA b o n c b2 bs w hn hc hm h h2).mono ?_;rintro e w' ⟨rfl,q,rfl⟩;unfold Lib.cutV;rw[if_pos (by omega),hi,Int.toNat_natCast];have hd:=h.drop (k:=i+1) (c:=c) (by omega) hc hn;rw[show n - (i+1)=r by omega]at hd;refine⟨_,c - (i+1),?_,by omega,hd.below (below_drewN (Below.refl _ _) q),q,rfl⟩;unfold Lib.fromV;rw[show n - (i+1)=r by omega]
def mY (r:Option (List UInt8 × Nat)):Value:=match r with
 |some (t,m)=>.tuple #[.string (str t),.int .i64 (m:Int),.bool true]
 |none=>.tuple #[.string ⟨#[]⟩,.int .i64 0,.bool false]
theorem Cr (b o n c:Nat) (bs:List UInt8) (w:World) (hn:bs.length=n) (hc:n≤c) (hm:n≤1000000000000) (h:cj w (some ⟨b,o,none⟩) n bs) (hN:Need w):
 Calls Tryz.prog 140 #[.slice (some ⟨b,o,none⟩) n c] w fun e w'=>e=.returned (mY (nM bs))∧Below w.heap.size w w':=by
 have C5:=Lib.run_convert_bytes_const (P:=Tryz.prog) w 26 5 #[.int .u8 32] 1 1 Tryz.underlying26 Tryz.underlying5;obtain⟨wm,p⟩:∃wm,w.alloc (.cells #[.int .u8 32] 5 (1,2))=wm:=⟨_,rfl⟩
 have M7:Below w.heap.size w wm:=by rw[←p];exact(Below.refl _ _).alloc (Qk _) _
 have D:=Qh M7;have V:=Qh (by rw[←p];exact F8 w 5 32:wm.cell? ⟨w.heap.size,0,none⟩=some (.int .u8 32));have H:=Qh h;have l:=Qh hN;have J:=Qh hn;rw[show((#[.int .u8 32]:Array Value).size,(#[.int .u8 32]:Array Value).size+1)=(1,2)from rfl,p]at C5;clear M7 h hN p
 by_cases X:Lib.indexByte bs 32<0
 ·have e:nM bs=none:=by unfold nM;rw[if_pos X]
  rw[e];have G:=Qh X;clear e X
  go_enter Tryz.func140,Tryz.ntmps140
  go_wp2_with fail
  refine(Lv b o n c w.heap.size bs wm J.out hc hm (H.out.below D.out) V.out G.out).mono ?_;rintro e t ⟨rfl,q,rfl⟩;have A:=Qh (below_drewN D.out q);go_wp2
  go_ret3
  exact⟨rfl,A.out⟩
 ·obtain⟨i,hi⟩:∃i:Nat,Lib.indexByte bs 32=i:=⟨(Lib.indexByte bs 32).toNat,by omega⟩
  obtain⟨T5,_,_⟩:=rL bs i hi;obtain⟨r,Z⟩:∃r,n=i+1+r:=⟨n - (i+1),by omega⟩
  have QG:(bs.take i).length=i:=by rw[Qg];omega
  have E:Hid (nM bs=match lE (bs.take i)with
   |none=>none
   |some m=>if m<i+4∨bs.length<m∨bs.getD (m - 1) 0≠10 then none else some ((bs.drop (i+1)).take (m - 1 - (i+1)),m)):=Qh (by
    unfold nM;rw[if_neg X,hi,Int.toNat_natCast]
    all_goals (cases lE (bs.take i)<;>rfl))
  have G:=Qh (And.intro hi Z);have TE:=Qh QG;have aa5:(i:Int)≤1000000000000:=by omega
  have ab5:(r:Int)≤1000000000000:=by omega
  have N:Hid (i≤1000000000000∧i≤n):=Qh (by omega);clear hi X QG T5
  cases I:lE (bs.take i)with
  |none=>
   rw[I]at E
   have W:Hid (∀w,cj w (some ⟨b,o,none⟩) i (bs.take i)→Need w→Calls Tryz.prog 180 #[.slice (some ⟨b,o,none⟩) i c] w fun e w'=>e=.returned (.tuple #[.int .i64 0,.bool false])∧Below w.heap.size w w'):=Qh (fun w h1 z=>by
    have:=td (some ⟨b,o,none⟩) i c (bs.take i) w TE.out N.out.1 h1 z;rw[I]at this
    exact this)
   rw[E.out];clear I E Z
   go_enter Tryz.func140,Tryz.ntmps140
   go_wp2_with fail
   refine(qU b o n c w.heap.size i r bs wm J.out hc hm (H.out.below D.out) V.out G.out.1 G.out.2).mono ?_;rintro e t ⟨q2,c2,rfl,_,_,q,rfl⟩;have A:=Qh (below_drewN D.out q);go_wp2_with fail;refine(W.out _ ((H.out.take N.out.2).below A.out) (l.out.below A.out)).mono ?_;rintro e w2 ⟨rfl,B⟩;have L:=Qh (A.out.trans (B.mono A.out.size));clear B;go_wp2
   go_ret3
   exact⟨rfl,L.out⟩
  |some m=>
   have q7:=(vf I).2.2.2.2.2;rw[I]at E
   have W:Hid (∀w,cj w (some ⟨b,o,none⟩) i (bs.take i)→Need w→Calls Tryz.prog 180 #[.slice (some ⟨b,o,none⟩) i c] w fun e w'=>e=.returned (.tuple #[.int .i64 (m:Int),.bool true])∧Below w.heap.size w w'):=Qh (fun w h1 z=>by
    have:=td (some ⟨b,o,none⟩) i c (bs.take i) w TE.out N.out.1 h1 z;rw[I]at this
    exact this)
   have ab0:(m:Int)<10000000:=by omega
   by_cases M:m<i+4∨n<m
   ·have R:Ht ((m:Int) - (i:Int) - 1) 3 (r:Int)=false:=iu (by omega)
    have U:Hid (nM bs=none):=Qh (by
     rw[E.out];simp only
     rw[if_pos (by rw[J.out];rcases M with h|h;exact .inl h;exact .inr (.inl h))])
    rw[U.out];have u:=Qh R;clear I E Z q7 R M
    go_enter Tryz.func140,Tryz.ntmps140
    go_wp2_with fail
    refine(qU b o n c w.heap.size i r bs wm J.out hc hm (H.out.below D.out) V.out G.out.1 G.out.2).mono ?_;rintro e t ⟨q2,c2,rfl,_,_,q,rfl⟩;have A:=Qh (below_drewN D.out q);go_wp2_with fail;refine(W.out _ ((H.out.take N.out.2).below A.out) (l.out.below A.out)).mono ?_;rintro e w2 ⟨rfl,B⟩;have L:=Qh (A.out.trans (B.mono A.out.size));clear B;go_wp2_with fail;refine(kl _ _ _ _).mono ?_;rw[u.out];rintro e w3 ⟨rfl,rfl⟩;go_wp2
    go_ret3
    exact⟨rfl,L.out⟩
   ·obtain⟨v,hv⟩:∃v,m=i+2+v:=⟨m - (i+2),by omega⟩
    have R:Ht ((v:Int)+1) 3 (r:Int)=true:=fj (by omega) (by omega);have u:=Qh R;have ba:(m:Int) - (i:Int) - 1=(v:Int)+1:=by omega
    have hvr:(v:Int)<(r:Int):=by omega
    have O:Hid (v<r∧v≤r):=Qh (by omega);obtain⟨C,Y⟩:∃C:Nat,(bs.getD (m - 1) 0).toNat=C:=⟨_,rfl⟩
    have HC:Hid (((bs.drop (i+1)).getD v 0).toNat=C):=Qh (by
     rw[←Y,show m - 1=i+1+v by omega]
     simp[List.getD])
    have Zn:Hid ((bs.drop (i+1)).length=r):=Qh (by rw[Qe];omega)
    by_cases T:bs.getD (m - 1) 0=10
    ·have hb:((C:Int) != 10)=false:=by rw[←Y,T];rfl
     have U:Hid (nM bs=some ((bs.drop (i+1)).take v,m)):=Qh (by
      rw[E.out];simp only
      rw[if_neg (by
       rw[J.out];rintro(h|h|h)
       ·exact M (.inl h)
       ·exact M (.inr h)
       ·exact h T),show m - 1 - (i+1)=v by omega])
     rw[U.out];clear I E Z q7 R M Y T hv
     go_enter Tryz.func140,Tryz.ntmps140
     go_wp2_with fail
     refine(qU b o n c w.heap.size i r bs wm J.out hc hm (H.out.below D.out) V.out G.out.1 G.out.2).mono ?_;rintro e t ⟨q2,c2,rfl,iI,d,q,rfl⟩;have A:=Qh (below_drewN D.out q);have y:=Qh d;clear d;go_wp2_with fail;refine(W.out _ ((H.out.take N.out.2).below A.out) (l.out.below A.out)).mono ?_;rintro e w2 ⟨rfl,B⟩;have L:=Qh (A.out.trans (B.mono A.out.size));have g:=Qh (y.out.below B);clear B;obtain⟨b3,o3,rfl,f⟩:=g.out (by have:=O.out;omega);have g0:=f v O.out.1;rw[HC.out]at g0;have cs:=cK (g.out.take O.out.2) (by rw[Qg,Zn.out];have:=O.out;omega) 26 5 9 Tryz.underlying26 Tryz.underlying5 Tryz.underlying9 c2;have HE3:Hid ((⟨((bs.drop (i+1)).take v).toArray⟩:ByteArray)=str ((bs.drop (i+1)).take v)):=Qh rfl;clear f;go_wp2_with fail;refine(kl _ _ _ _).mono ?_;rw[u.out];rintro e w3 ⟨rfl,rfl⟩;go_wp2
     go_ret3
     exact⟨rfl,L.out⟩
    ·have hb:((C:Int) != 10)=true:=by
      have:¬C=10:=fun e=>T (UInt8.toNat_inj.1 (by rw[Y,e];rfl))
      simp;omega
     have U:Hid (nM bs=none):=Qh (by
      rw[E.out];simp only
      rw[if_pos (.inr (.inr T))])
     rw[U.out];clear I E Z q7 R M Y T hv
     go_enter Tryz.func140,Tryz.ntmps140
     go_wp2_with fail
     refine(qU b o n c w.heap.size i r bs wm J.out hc hm (H.out.below D.out) V.out G.out.1 G.out.2).mono ?_;rintro e t ⟨q2,c2,rfl,iI,d,q,rfl⟩;have A:=Qh (below_drewN D.out q);have y:=Qh d;clear d;go_wp2_with fail;refine(W.out _ ((H.out.take N.out.2).below A.out) (l.out.below A.out)).mono ?_;rintro e w2 ⟨rfl,B⟩;have L:=Qh (A.out.trans (B.mono A.out.size));have g:=Qh (y.out.below B);clear B;obtain⟨b3,o3,rfl,f⟩:=g.out (by have:=O.out;omega);have g0:=f v O.out.1;rw[HC.out]at g0;clear f;go_wp2_with fail;refine(kl _ _ _ _).mono ?_;rw[u.out];rintro e w3 ⟨rfl,rfl⟩;go_wp2
     go_ret3
     exact⟨rfl,L.out⟩
end Rec
namespace Mem
open Go.ChangeShapes Go.WideShapes Go.ChangeAt Go.RowKit Hp Head Path Rec Attr Go.Lib
variable {m:aq}
theorem GV (h:cG m):m.target.length≤200:=by
 rcases h.kind with k|k|k|k
 ·rw[h.none (.inl k)];simp
 ·exact((nK 9 6 (by decide) (by decide) _ _).1 (h.OK k)).2.2.2.2.2
 ·have:=h.sym k
  unfold dP at this;split at this
  ·cases this
  ·split at this
   ·cases this
   ·omega
 ·rw[h.none (.inr k)];simp
theorem wf_i64 (h0:0≤n) (h1:n≤9223372036854775807):(Lit.int .i64 n).wf=true:=by
 have A:IntKind.i64.min=-9223372036854775808:=rfl;have B:IntKind.i64.max=9223372036854775807:=rfl;simp only[Lit.wf,Bool.and_eq_true,decide_eq_true_eq];omega
theorem I3 (h:cG m):∀i,(Lit.int .i64 (jB (aV m) i)).wf=true:=by
 have h1:=h.mode;have A:=h.uid;have B:=h.gid;have D:=h.time;have E:=h.body;intro i;unfold jB aV;split
 ·exact wf_i64 (n:=m.mode) h1.1 (by omega)
 ·simp only;split<;>exact wf_i64 (by omega) (by omega)
 ·simp only;split<;>exact wf_i64 (by omega) (by omega)
 ·exact wf_i64 (n:=(m.body.length:Int)) (by omega) (by omega)
 ·simp only;split<;>exact wf_i64 (by omega) (by omega)
 ·exact wf_i64 (by omega) (by omega)
theorem yD (h:cG m):(aV m).name.length≤140737488351232∧(aV m).link.length≤140737488351232:=by
 have h1:=h.qg;have A:=GV h;unfold aV;constructor
 ·simp only;split
  ·decide
  ·omega
 ·simp only;split
  ·decide
  ·omega
theorem Mw {n:Nat} (h:n≤1048576):∀i,(Lit.int .i64 (jB (xo n) i)).wf=true:=by
 intro i;unfold jB xo;split
 ·exact wf_i64 (n:=0) (by omega) (by omega)
 ·exact wf_i64 (n:=0) (by omega) (by omega)
 ·exact wf_i64 (n:=0) (by omega) (by omega)
 ·exact wf_i64 (n:=(n:Int)) (by omega) (by omega)
 ·exact wf_i64 (n:=0) (by omega) (by omega)
 ·exact wf_i64 (by omega) (by omega)
end Mem
end Go.Proofs.YtdhibldkldlfpaaGreatDoor
