/- Merged. -/
import Derived.Test.YtdhibldkldlfpaaGreatDoorEmitUnpacksX24
import Derived.Lib.ParseIntB
import Derived.Lib.AtoiTie
import Derived.Lib.ItoaNum
import Derived.Test.YtdhibldkldlfpaaGreatDoorEmitUnpacksX19
import Derived.Lib.LaidTab
import Derived.Test.YtdhibldkldlfpaaGreatDoorEmitUnpacksX6
import Derived.Test.YtdhibldkldlfpaaGreatDoorEmitUnpacksX10
namespace Go.Proofs.YtdhibldkldlfpaaGreatDoor
namespace Attr
end Attr
namespace Mem
end Mem
set_option linter.unusedVariables false
set_option maxHeartbeats 1000000
set_option maxRecDepth 100000
variable {e n:Int} {b k l v:List UInt8}
namespace Rec
open Go.Lib Path
theorem T0 (u:Nat):decDigits u=aM u:=by
 induction u using Nat.strongRecOn with
 |ind u ih=>
  by_cases h:u<10
  ·rw[decDigits,dif_pos h,k5 h,Gn,Nat.mod_eq_of_lt h]
  ·rw[decDigits,dif_neg h,o8 h,ih _ (by omega)]
   rfl
theorem Q6 (u:Nat):itoa (u:Int)=aM u:=by
 unfold itoa;rw[if_neg (by omega),Int.toNat_natCast,T0]
theorem MZ (l:List UInt8):∀acc k,acc<10 ^ k→k+l.length≤18→parseUintM (2 ^ 64 - 1) acc l=if l.all aN then .ok (l.foldl (fun n b=>n*10+(b.toNat - 48)) acc)else NumEnd.ofOption none:=by
 induction l with
 |nil=>intro acc k _ _;rfl
 |cons c r ih=>
  intro acc k h1 B;rw[List.length_cons]at B;have D:10 ^ k≤10 ^ 17:=Nat.pow_le_pow_right (by omega) (by omega);have A:(10:Nat) ^ 17=100000000000000000:=by decide
  rw[A]at D;rw[parseUintM,List.all_cons,List.foldl_cons]
  by_cases hc:48≤c.toNat∧c.toNat≤57
  ·have hd:aN c=true:=by simp[aN,hc]
   rw[if_pos hc,if_neg (by omega),if_neg (by have:(2:Nat) ^ 64 - 1=18446744073709551615:=by decide
                                             omega),hd,Bool.true_and]
   exact ih _ (k+1) (by rw[Nat.pow_succ];omega) (by omega)
  ·have hd:aN c=false:=by simp[aN];omega
   rw[if_neg hc,hd];rfl
theorem RF (l:List UInt8) (h1:1≤l.length) (h2:l.length≤18):parseUintB 64 l=if l.all aN then .ok (ki l)else NumEnd.ofOption none:=by
 unfold parseUintB;rw[if_neg (by rintro rfl;simp at h1),MZ l 0 0 (by decide) (by omega)];rfl
def uQ (l:List UInt8):Option Nat:=if l.length<1∨7<l.length∨l.getD 0 0=48 then none else if l.all aN then some (ki l)else none
theorem Fl {m:Nat} (h:uQ l=some m):1≤l.length∧l.length≤7∧l.getD 0 0≠48∧(∀b∈l,aN b=true)∧m=ki l∧m<10000000:=by
 unfold uQ at h;split at h
 ·cases h
 ·next h1=>
  split at h
  ·next B=>
   cases h
   have A:=List.all_eq_true.1 B;refine⟨by omega,by omega,fun e=>h1 (.inr (.inr e)),A,rfl,?_⟩;have D:=Ie l A;have E:10 ^ l.length≤10 ^ 7:=Nat.pow_le_pow_right (by omega) (by omega);have G:(10:Nat) ^ 7=10000000:=by decide
   omega
  ·cases h
def xT (l:List UInt8):Option (List UInt8 × Nat):=
 if indexByte l 32<0 then none
 else match uQ (l.take (indexByte l 32).toNat)with
 |none=>none
 |some m=>
  if m<(indexByte l 32).toNat+4∨l.length<m∨l.getD (m - 1) 0≠10 then none
  else some ((l.drop ((indexByte l 32).toNat+1)).take (m - 1 - ((indexByte l 32).toNat+1)),m)
theorem Cb (l:List UInt8) (i:Nat) (hi:indexByte l 32=i):i<l.length∧l.getD i 0=32∧(∀j,j<i→l.getD j 0≠32):=by
 have h1:=Lib.indexByte_some hi;have D:=(List.getElem?_eq_some_iff.1 h1.1).1;refine⟨D,by rw[List.getD,h1.1];rfl,fun j E e=>?_⟩;have A:=h1.2 j E;have B:j<l.length:=by omega
 rw[List.getD,Qd B]at e;rw[Qd B]at A;exact A (by rw[←e];rfl)
theorem Hn (R T:Int) (l:List UInt8):aZ R T l=match xT l with
 |none=>.error R
 |some (t,m)=>if indexByte t 61<1 then .error R else if aQ t=false then .error T else .ok (t.take (indexByte t 61).toNat,t.drop ((indexByte t 61).toNat+1),m):=by
 obtain⟨hN,V⟩:=zc l;unfold xT
 by_cases N:indexByte l 32<0
 ·rw[if_pos N]
  simp only;unfold aZ;rw[if_pos];have Z:indexByte l 32=-1:=by have:=Lib.indexByte_ge l 32;omega
  by_cases hl:jd l=l.length
  ·exact .inr (.inr (.inr (.inl hl)))
  ·refine .inr (.inr (.inr (.inr fun e=>?_)))
   have hc:l.contains 32=false:=by rw[←iK.vK,decide_eq_false (by omega)]
   exact iK.QM hc (jd l) (by omega) e
 ·rw[if_neg N]
  obtain⟨i,hi⟩:∃i:Nat,indexByte l 32=i:=⟨(indexByte l 32).toNat,by omega⟩
  obtain⟨Y,B,H⟩:=Cb l i hi;rw[hi,Int.toNat_natCast];have M:(l.take i).length=i:=by rw[Qg];omega
  have A:∀j,j<i→(l.take i).getD j 0=l.getD j 0:=fun j E=>by
   rw[List.getD,List.getD,List.getElem?_take,if_pos E]
  cases G:uQ (l.take i)with
  |none=>
   simp only;unfold aZ;rw[if_pos]
   by_cases ha:(l.take i).all aN=true
   ·have D:jd l=i:=xW l i (by omega) (fun j E=>by
     rw[←A j E];have:j<(l.take i).length:=by omega
     rw[List.getD,Qd this]
     exact List.all_eq_true.1 ha _ (List.getElem_mem this)) (.inr (by rw[B];decide))
    unfold uQ at G;rw[ha,if_pos rfl,M]at G
    by_cases hc:i<1∨7<i∨(l.take i).getD 0 0=48
    ·rw[D]
     rcases hc with h|h|h
     ·exact .inl h
     ·exact .inr (.inl h)
     ·by_cases L:i<1
      ·exact .inl L
      ·rw[A 0 (by omega)]at h
       exact .inr (.inr (.inl h))
    ·rw[if_neg hc]at G
     cases G
   ·
    have U:jd l<i:=by
     rcases Nat.lt_or_ge (jd l) i with h|h
     ·exact h
     ·exfalso
      refine ha (List.all_eq_true.2 fun b W=>V b ?_);obtain⟨j,E,rfl⟩:=List.mem_iff_getElem.1 W;rw[List.getElem_take];have O:j<(l.take (jd l)).length:=by rw[Qg];omega
      have:(l.take (jd l))[j]=l[j]'(by omega):=List.getElem_take;rw[←this];exact List.getElem_mem O
    exact .inr (.inr (.inr (.inr (H _ U))))
  |some m=>
   obtain⟨X,n7,n48,I,J,_⟩:=Fl G;rw[M]at X n7;rw[A 0 (by omega)]at n48
   have D:jd l=i:=xW l i (by omega) (fun j E=>by
    rw[←A j E];have:j<(l.take i).length:=by omega
    rw[List.getD,Qd this]
    exact I _ (List.getElem_mem this)) (.inr (by rw[B];decide))
   simp only;unfold aZ
   rw[D,←J,if_neg (by
    rintro(e|e|e|e|e)
    ·omega
    ·omega
    ·exact n48 e
    ·omega
    ·exact e B)]
   by_cases hc:m<i+4∨l.length<m∨l.getD (m - 1) 0≠10
   ·rw[if_pos hc,if_pos (by
     rcases hc with h|h|h
     ·exact .inr (.inl h)
     ·exact .inl h
     ·exact .inr (.inr h))]
   ·rw[if_neg hc,if_neg (by
     rintro(e|e|e)
     ·exact hc (.inr (.inl e))
     ·exact hc (.inl e)
     ·exact hc (.inr (.inr e)))]
theorem JE (m:Nat) (hm:0<m):pO m=m+(aM m).length∧(aM (m+(aM m).length)).length=(aM m).length∨
 pO m=m+(aM (m+(aM m).length)).length∧(aM (m+(aM m).length)).length≠(aM m).length∧(aM (m+(aM (m+(aM m).length)).length)).length=(aM (m+(aM m).length)).length:=by
 have he:=CK m hm
 by_cases h:(aM (m+(aM m).length)).length=(aM m).length
 ·left
  unfold pO;rw[if_pos h];exact⟨rfl,h⟩
 ·right
  have hl:pO m=m+(aM m).length+1:=by unfold pO;rw[if_neg h]
  rw[hl]at he;have h1:=uB (show m+(aM m).length≤m+(aM m).length+1 by omega);have B:=uB (show m≤m+(aM m).length by omega);have A:(aM (m+(aM m).length)).length=(aM m).length+1:=by omega
  refine⟨by rw[hl,A];omega,h,?_⟩;rw[A,←Nat.add_assoc];omega
end Rec
namespace Attr
open Go.Lib Rec Hp
abbrev bW:=List (List UInt8 × List UInt8)
def aD:bW→List UInt8→Option (List UInt8)
 |[],_=>none
 |r::rs,k=>match aD rs k with
  |some v=>some v
  |none=>if r.1=k then some r.2 else none
theorem sF (a b:bW) (k:List UInt8):aD (a++b) k=match aD b k with
 |some v=>some v
 |none=>aD a k:=by
 induction a with
 |nil=>cases h:aD b k<;>simp[aD,h]
 |cons r a ih=>
  rw[List.cons_append,aD,ih]
  cases h:aD b k with
  |some v=>rfl
  |none=>rfl
theorem Mu (a:bW) (r:List UInt8 × List UInt8) (k:List UInt8):aD (a++[r]) k=if r.1=k then some r.2 else aD a k:=by
 rw[sF]
 by_cases h:r.1=k<;>simp[aD,h]
theorem tC {rs:bW} (h:∀r∈rs,r.1≠k):aD rs k=none:=by
 induction rs with
 |nil=>rfl
 |cons r rs ih=>
  rw[aD,ih fun x A=>h x (List.mem_cons_of_mem _ A)];simp[h r (List.mem_cons_self ..)]
theorem U0 {rs:bW} (i:Nat) (hi:i<rs.length) (h1:(rs.getD i ([],[])).1=k) (h2:∀j,i<j→j<rs.length→(rs.getD j ([],[])).1≠k):aD rs k=some (rs.getD i ([],[])).2:=by
 have e:rs=rs.take i++rs.getD i ([],[])::rs.drop (i+1):=by
  have:rs.getD i ([],[])=rs[i]:=by simp[List.getD,hi]
  rw[this,List.getElem_cons_drop,List.take_append_drop]
 have B:aD (rs.drop (i+1)) k=none:=tC fun r A=>by
  obtain⟨j,D,rfl⟩:=List.getElem_of_mem A;rw[Qe]at D;have:=h2 (i+1+j) (by omega) (by omega);rw[List.getElem_drop]
  simpa [List.getD,show i+1+j<rs.length by omega]using this
 generalize A:rs.getD i ([],[])=r at e h1⊢;rw[e,sF,aD,B];simp[h1]
theorem U2 {rs:bW} (h:∀j,j<rs.length→(rs.getD j ([],[])).1≠k):aD rs k=none:=tC fun r B=>by
 obtain⟨j,A,rfl⟩:=List.getElem_of_mem B;have:=h j A
 simpa [List.getD,A]using this
theorem Fe {rs:bW} (h:aD rs k=some v):∃r∈rs,r.1=k∧r.2=v:=by
 induction rs with
 |nil=>cases h
 |cons r rs ih=>
  rw[aD]at h
  cases hl:aD rs k with
  |some u=>
   rw[hl]at h ih;obtain⟨x,A,h1⟩:=ih h;exact⟨x,List.mem_cons_of_mem _ A,h1⟩
  |none=>
   rw[hl]at h
   by_cases hk:r.1=k
   ·simp only[hk,if_true]at h
    exact⟨r,List.mem_cons_self ..,hk,Option.some.inj h⟩
   ·simp[hk]at h
def jw (F:List UInt8→Option (List UInt8)) (own:bW) (k:List UInt8):List UInt8:=match aD own k with
 |some v=>v
 |none=>(F k).getD []
def yr:List UInt8→Option (List UInt8):=fun _=>none
def oO (F:List UInt8→Option (List UInt8)) (rs:bW):List UInt8→Option (List UInt8):=fun k=>match aD rs k with
 |some v=>some v
 |none=>F k
theorem Fh (F:List UInt8→Option (List UInt8)):oO F []=F:=rfl
theorem MK (F:List UInt8→Option (List UInt8)) (rs:bW) (r:List UInt8 × List UInt8):oO F (rs++[r])=fun k=>if k=r.1 then some r.2 else oO F rs k:=by
 funext k
 unfold oO;rw[Mu]
 by_cases h:k=r.1
 ·simp[h]
 ·have:¬r.1=k:=fun e=>h e.symm
  simp[h,this]
theorem MJ (F:List UInt8→Option (List UInt8)) (a b:bW):oO (oO F a) b=oO F (a++b):=by
 funext k
 unfold oO;rw[sF]
 cases aD b k<;>rfl
theorem CU (rs:bW):oO yr rs=aD rs:=by
 funext k
 unfold oO yr
 cases aD rs k<;>rfl
def rH (l:List UInt8):Option Nat:=
 if 0≤indexByte l 46 then(if(l.drop ((indexByte l 46).toNat+1)).all aN then bA (l.take (indexByte l 46).toNat)else none)else bA l
def aJ:Nat→List UInt8
 |0=>[117,105,100]|1=>[103,105,100]|2=>[109,116,105,109,101]|3=>[115,105,122,101]|4=>[112,97,116,104]|_=>[108,105,110,107,112,97,116,104]
def jf (time:Bool) (v:List UInt8) (old:Int):Option Int:=
 if v=[]then some old else Option.map Int.ofNat (if time then rH v else bA v)
def aE (v old:List UInt8):List UInt8:=if v=[]then old else v
def jt (V:Nat→List UInt8) (h:af):af × Int:=
 match jf false (V 0) h.uid,jf false (V 1) h.gid,jf true (V 2) h.time,jf false (V 3) h.size with
 |some u,some g,some t,some s=>({h with name:=aE (V 4) h.name,link:=aE (V 5) h.link,uid:=u,gid:=g,time:=t,size:=s},0)
 |_,_,_,_=>(bg,4)
def cC (F:List UInt8→Option (List UInt8)) (own:bW) (h:af):af × Int:=jt (fun i=>jw F own (aJ i)) h
theorem IY (l:List UInt8) (h:∀b∈l,aN b=true):∀acc,decFrom acc l=some (l.foldl (fun n b=>n*10+(b.toNat - 48)) acc):=by
 induction l with
 |nil=>intro acc;rfl
 |cons c l ih=>
  intro acc;have hc:=h c (List.mem_cons_self ..);simp only[aN,decide_eq_true_eq]at hc
  have hd:digitVal c=some (c.toNat - 48):=by
   simp[digitVal];omega
  rw[decFrom,hd];exact ih (fun b A=>h b (List.mem_cons_of_mem _ A)) _
theorem TR (l:List UInt8) (h0:l≠[]) (h:∀b∈l,aN b=true):atoi l=some (ki l:Int):=by
 cases l with
 |nil=>exact absurd rfl h0
 |cons c l=>
  have hc:=h c (List.mem_cons_self ..);simp only[aN,decide_eq_true_eq]at hc;have B:(c==45)=false:=beq_eq_false_iff_ne.2 fun e=>by subst e;exact absurd hc.1 (by decide)
  have A:(c==43)=false:=beq_eq_false_iff_ne.2 fun e=>by subst e;exact absurd hc.1 (by decide)
  unfold atoi;simp only[B,A,decNat,List.isEmpty_cons,IY _ h];rfl
theorem Wk (l:List UInt8):(trimS l [48,49,50,51,52,53,54,55,56,57]=[])↔∀b∈l,aN b=true:=by
 have hd:∀b:UInt8,([48,49,50,51,52,53,54,55,56,57]:List UInt8).contains b=aN b:=fun b=>by
  rw[Bool.eq_iff_iff];simp only[List.contains_iff_mem,aN,decide_eq_true_eq,List.mem_cons,List.not_mem_nil,or_false];constructor
  ·rintro(rfl|rfl|rfl|rfl|rfl|rfl|rfl|rfl|rfl|rfl)<;>decide
  ·intro h
   have e:∀n:Nat,b.toNat=n→b=UInt8.ofNat n:=fun n H=>by rw[←H];simp
   have:b.toNat=48∨b.toNat=49∨b.toNat=50∨b.toNat=51∨b.toNat=52∨b.toNat=53∨b.toNat=54∨b.toNat=55∨b.toNat=56∨b.toNat=57:=by omega
   rcases this with h|h|h|h|h|h|h|h|h|h<;>(have:=e _ h;subst this;decide)
 have E:∀l:List UInt8,l.dropWhile (([48,49,50,51,52,53,54,55,56,57]:List UInt8).contains ·)=[]↔∀b∈l,aN b=true:=fun l=>by
  induction l with
  |nil=>simp
  |cons c l ih=>
   rw[List.dropWhile_cons]
   by_cases hc:aN c=true
   ·rw[if_pos (by rw[hd];exact hc),ih]
    simp[hc]
   ·rw[if_neg (by rw[hd];exact hc)]
    simp[hc]
 have G:∀l:List UInt8,(∃b∈l,aN b=false)→∃b∈trimRightS l [48,49,50,51,52,53,54,55,56,57],aN b=false:=fun l h=>by
  unfold trimRightS;obtain⟨b,A,D⟩:=h
  have:∀m:List UInt8,b∈m→b∈m.dropWhile (([48,49,50,51,52,53,54,55,56,57]:List UInt8).contains ·):=fun m=>by
   induction m with
   |nil=>intro h;exact h
   |cons c m ih=>
    intro hm;rw[List.dropWhile_cons]
    by_cases hc:aN c=true
    ·rw[if_pos (by rw[hd];exact hc)]
     rcases List.mem_cons.1 hm with rfl|hm
     ·rw[D]at hc;cases hc
     ·exact ih hm
    ·rw[if_neg (by rw[hd];exact hc)]
     exact hm
  exact⟨b,List.mem_reverse.2 (this _ (List.mem_reverse.2 A)),D⟩
 unfold trimS trimLeftS;rw[E];constructor
 ·intro h b A
  cases D:aN b with
  |true=>rfl
  |false=>
   obtain⟨c,hc,B⟩:=G l ⟨b,A,D⟩;rw[h c hc]at B
   cases B
 ·intro h b A
  refine h b ?_;unfold trimRightS at A;exact List.mem_reverse.1 ((List.dropWhile_suffix _).subset (List.mem_reverse.1 A))
end Attr
namespace Mem
open Go.Lib Fp Hp Path Rec Attr
variable {H L t body:List UInt8} {F:List UInt8→Option (List UInt8)} {k:Nat} {V:Nat→List UInt8} {h:af}
structure aB where
 path:List UInt8
 target:List UInt8
 kind:UInt8
 mode:Int
 uid:Int
 gid:Int
 time:Int
 body:List UInt8
deriving instance DecidableEq for aB
def iU (mode uid gid time:Int):Bool:=decide (0≤mode∧mode≤4095∧0≤uid∧uid<2147483648∧0≤gid∧gid<2147483648∧0≤time∧time≤1099511627776)
def jN (l:List UInt8):Bool:=decide (aF 9 6 l=(l,0))
def cf (m:aB):Bool:=
 jN m.path&&iU m.mode m.uid m.gid m.time&&decide (m.body.length≤1048576)&&(m.kind==48||m.body==[])&&
  (if m.kind=48∨m.kind=53 then m.target==[]else if m.kind=49 then jN m.target else if m.kind=50 then decide (iV 9 6 m.target=0)else false)
structure RS where
 out:List aB
 bE:bW
 own:bW
 name:Option (List UInt8)
 link:Option (List UInt8)
 iT:Bool
inductive Step where
 |fault (e:Int)
 |done
 |next (k:Nat) (s:RS)
def aw (n:Nat):Nat:=(n+511) / 512*512
def kF (l:List UInt8) (n:Int):Option (List UInt8 × Nat):=
 if 2097152<n∨l.length - 512<aw n.toNat then none else some ((l.drop 512).take n.toNat,512+aw n.toNat)
def ji (l:List UInt8) (h:af) (s:RS):Step:=
 if(h.kind=120∧s.iT=true)∨(h.kind=76∧s.name.isSome=true)∨(h.kind=75∧s.link.isSome=true)then .fault 5
 else if 1048576<h.size then .fault 10
 else match kF l h.size with
  |none=>.fault 2
  |some (t,k)=>
   if h.kind=76 then .next k {s with name:=some (av t)}
   else if h.kind=75 then .next k {s with link:=some (av t)}
   else if(aO 5 9 t).2≠0 then .fault (aO 5 9 t).2
   else if h.kind=103 then .next k {s with bE:=s.bE++(aO 5 9 t).1}
   else .next k {s with iT:=true,own:=(aO 5 9 t).1}
def jF (h:af) (s:RS):Except Int (aB × Int):=
 let a:=cC (aD s.bE) s.own {h with name:=s.name.getD h.name,link:=s.link.getD h.link}
 let c:=aF 9 6 a.1.name
 let d:=aF 9 6 a.1.link
 let t:=iV 9 6 a.1.link
 if a.2≠0 then .error a.2
 else if c.2≠0 then .error c.2
 else if iU a.1.mode a.1.uid a.1.gid a.1.time=false then .error 4
 else if a.1.kind=49∧d.2≠0 then .error d.2
 else if a.1.kind=50∧t≠0 then .error t
 else if a.1.kind≠48∧a.1.size≠0 then .error 4
 else if 1048576<a.1.size then .error 10
 else .ok (⟨c.1,if a.1.kind=49 then d.1 else if a.1.kind=50 then a.1.link else[],a.1.kind,a.1.mode,a.1.uid,a.1.gid,a.1.time,[]⟩,a.1.size)
def oo (l:List UInt8) (h:af) (s:RS):Step:=
 if 4096≤s.out.length then .fault 10
 else if h.kind≠48∧h.kind≠49∧h.kind≠50∧h.kind≠53 then .fault 8
 else match jF h s with
  |.error e=>.fault e
  |.ok (m,n)=>match kF l n with
   |none=>.fault 2
   |some (t,k)=>.next k {s with out:=s.out++[{m with body:=t}],own:=[],name:=none,link:=none,iT:=false}
def bZ (l:List UInt8):Bool:=l.all (·==0)
def tZ (k:UInt8):Bool:=k==120||k==103||k==76||k==75
def aG (l:List UInt8) (s:RS):Step:=
 if l.length<512 then .fault 2
 else if bZ (l.take 512)then
  if l.length - 512<512 then .fault 2
  else if bZ (l.drop 512)=false then .fault 9
  else if s.iT=true∨s.name.isSome=true∨s.link.isSome=true then .fault 5
  else .done
 else if(aR (l.take 512)).2≠0 then .fault (aR (l.take 512)).2
 else if tZ (aR (l.take 512)).1.kind then ji l (aR (l.take 512)).1 s
 else oo l (aR (l.take 512)).1 s
def xo:Nat→List UInt8→Nat→RS→List aB × Int × Nat
 |0,_,_,_=>([],2,0)
 |f+1,l,at_,s=>match aG l s with
  |.fault e=>([],e,at_)
  |.done=>(s.out,0,0)
  |.next k s'=>xo f (l.drop k) (at_+k) s'
def bY (l:List UInt8) (at_:Nat) (s:RS):List aB × Int × Nat:=xo (l.length+1) l at_ s
def nU:RS:=⟨[],[],[],none,none,false⟩
def cu (b:List UInt8):List aB × Int × Nat:=bY b 0 nU
theorem tf (h:kF l n=some (t,k)):k=512+aw n.toNat∧aw n.toNat≤l.length - 512∧t=(l.drop 512).take n.toNat∧n≤2097152:=by
 unfold kF at h;split at h
 ·cases h
 ·cases h
  exact⟨rfl,by omega,rfl,by omega⟩
theorem qK {s s':RS} (h:aG l s=.next k s'):512≤k∧k≤l.length:=by
 unfold aG at h;split at h
 ·cases h
 ·rename_i D
  split at h
  ·split at h
   ·cases h
   ·split at h
    ·cases h
    ·split at h<;>cases h
  ·split at h
   ·cases h
   ·split at h
    ·unfold ji at h
     split at h
     ·cases h
     ·split at h
      ·cases h
      ·split at h
       ·cases h
       ·rename_i t k' A
        obtain⟨h1,B,_,_⟩:=tf A
        have hk:k=k':=by
         split at h
         ·cases h;rfl
         ·split at h
          ·cases h;rfl
          ·split at h
           ·cases h
           ·split at h<;>(cases h;rfl)
        omega
    ·unfold oo at h
     split at h
     ·cases h
     ·split at h
      ·cases h
      ·split at h
       ·cases h
       ·split at h
        ·cases h
        ·rename_i t k' A
         obtain⟨h1,B,_,_⟩:=tf A
         cases h
         omega
theorem J9 (n:Nat):∀m l at_ s,l.length<n→l.length<m→xo n l at_ s=xo m l at_ s:=by
 induction n with
 |zero=>intro m l at_ s h;omega
 |succ n ih=>
  intro m l at_ s h1 A
  cases m with
  |zero=>omega
  |succ m=>
   rw[xo,xo]
   cases hs:aG l s with
   |fault e=>rfl
   |done=>rfl
   |next k B=>
    obtain⟨g1,g2⟩:=qK hs;exact ih m _ _ _ (by rw[Qe];omega) (by rw[Qe];omega)
theorem se (l:List UInt8) (at_:Nat) (s:RS):bY l at_ s=match aG l s with
 |.fault e=>([],e,at_)
 |.done=>(s.out,0,0)
 |.next k s'=>bY (l.drop k) (at_+k) s':=by
 unfold bY;rw[xo]
 cases hs:aG l s with
 |fault e=>rfl
 |done=>rfl
 |next k s'=>
  obtain⟨g1,g2⟩:=qK hs;exact J9 _ _ _ _ _ (by rw[Qe];omega) (by omega)
theorem ke {s:RS} (h:aG l s=.fault e) (at_:Nat):bY l at_ s=([],e,at_):=by rw[se,h]
theorem nL {s:RS} (h:aG l s=.done) (at_:Nat):bY l at_ s=(s.out,0,0):=by rw[se,h]
theorem kL {s s':RS} (h:aG l s=.next k s') (at_:Nat):bY l at_ s=bY (l.drop k) (at_+k) s':=by rw[se,h]
def sx (l:List UInt8):Bool:=l.all fun b=>decide (b.toNat≤127)
def bN:List UInt8:=[64,108,111,110,103]
def as8:List UInt8:=[64,112,97,120]
def Hi (n:Nat):af:=⟨as8,[],120,0,0,0,0,(n:Int),false⟩
def rb (m:aB):Bool:=(o7 m.path).isNone||!sx m.path
def pP (m:aB):Bool:=decide (100<m.target.length)||!sx m.target
def bJ (m:aB):af:=
 ⟨if rb m then bN else m.path,if pP m then bN else m.target,m.kind,m.mode,if 2097151<m.uid then 0 else m.uid,if 2097151<m.gid then 0 else m.gid,if 8589934591<m.time then 0 else m.time,(m.body.length:Int),false⟩
def bq (m:aB):bW:=
 (if rb m then[(aJ 4,m.path)]else[])++(if pP m then[(aJ 5,m.target)]else[])++(if 2097151<m.uid then[(aJ 0,aM m.uid.toNat)]else[])++
  (if 2097151<m.gid then[(aJ 1,aM m.gid.toNat)]else[])++(if 8589934591<m.time then[(aJ 2,aM m.time.toNat)]else[])
def sK (l:List UInt8):List UInt8:=l++List.replicate (aw l.length - l.length) 0
def rq (m:aB):List UInt8:=
 (if bc (bq m)=[]then[]else(nK (Hi (bc (bq m)).length)).getD []++sK (bc (bq m)))++((nK (bJ m)).getD []++sK m.body)
def EC (ms:List aB):List UInt8:=(ms.map rq).flatten++List.replicate 1024 0
theorem jL (n:Nat):n≤aw n∧aw n<n+512:=by unfold aw;omega
theorem jz (l:List UInt8):(sK l).length=aw l.length:=by
 have:=(jL l.length).1;simp only[sK,Qf,List.length_replicate];omega
theorem EI (H body rest:List UInt8) (hH:H.length=512) (hb:body.length≤2097152):kF (H++(sK body++rest)) (body.length:Int)=some (body,512+aw body.length):=by
 unfold kF;have A:=jz body;rw[if_neg (by simp only[Qf,hH,A,Int.toNat_natCast];omega),Int.toNat_natCast]
 congr 2
 rw[←hH,List.drop_left,sK,List.append_assoc,List.take_left'];rfl
theorem I0 (H body rest:List UInt8) (hH:H.length=512):(H++(sK body++rest)).drop (512+aw body.length)=rest:=by
 rw[←hH,←jz,List.drop_append,List.drop_append];simp
theorem xp (base:Int) (hb:0<base):∀(k:Nat) (n:Int),0≤n→n<base ^ k→ko base k n=0
 |0,n,h0,h1=>by simp only[Int.pow_zero]at h1;simp only[ko];omega
 |k+1,n,h0,h1=>by
  rw[ko];refine xp base hb k _ (Int.ediv_nonneg h0 (by omega)) (Int.ediv_lt_of_lt_mul hb ?_)
  rwa [Int.pow_succ]at h1
theorem Ay (h0:0≤n) (h1:n<2097152):(nJ n 8).isSome=true:=by
 rw[zz h0 (by omega) (by omega) (by omega) (xp 8 (by omega) _ n h0 (by simpa using h1))];rfl
theorem Df (h0:0≤n) (h1:n<8589934592):(nJ n 12).isSome=true:=by
 rw[zz h0 (by omega) (by omega) (by omega) (xp 8 (by omega) _ n h0 (by simpa using h1))];rfl
theorem O5 (hc:(o7 h.name).isSome=true) (hb:ug h=false) (hn:nC h=true):∃H,nK h=some H∧H.length=512∧aR H=(h,0):=by
 obtain⟨ps,A⟩:=Option.isSome_iff_exists.1 hc
 have e:nK h=some (iY (Bd h ps.1 ps.2)):=by
  unfold nK;rw[A];simp[hb,hn]
 exact⟨_,e,iE _,QR e⟩
theorem B0 (l:List UInt8) (h:∀b∈l,0<b.toNat∧b.toNat<128):aQ l=true:=by
 induction l with
 |nil=>exact zG
 |cons c l ih=>
  obtain⟨h1,A⟩:=Ji c (h c (List.mem_cons_self ..)) l;rw[kD _ (by simp),if_pos h1,A];exact ih fun b B=>h b (List.mem_cons_of_mem _ B)
theorem AP (h:aQ l=true):∀x∈l,x≠0:=by
 rw[DJ,Bool.and_eq_true,Bool.not_eq_true']at h;intro x A e;subst e;have:=h.2;rw[List.contains_eq_mem,decide_eq_false_iff_not]at this;exact this A
theorem Ca (n:Nat):aQ (aM n)=true:=B0 _ fun b A=>by
 have:=xU n b A;simp only[aN,decide_eq_true_eq]at this;omega
theorem LF (n:Nat):aM n≠[]:=List.length_pos_iff.1 (oA n)
theorem zL {n:Nat} (h:n<10 ^ 18):bA (aM n)=some n:=by
 have h1:=oA n;have B:=uA n 18 (by omega) h;have A:(aM n).all aN=true:=List.all_eq_true.2 (xU n);rw[bA,if_neg (by omega),if_pos A,Kz]
theorem index_none (l:List UInt8) (c:UInt8) (h:c∉l):indexByte l c=-1:=by
 induction l with
 |nil=>rfl
 |cons b l ih=>
  have A:(b==c)=false:=beq_eq_false_iff_ne.2 fun e=>h (by rw[e];exact List.mem_cons_self ..)
  have hi:=ih fun hc=>h (List.mem_cons_of_mem _ hc)
  simp[indexByte,A,hi]
theorem Y5 {n:Nat} (h:n<10 ^ 18):rH (aM n)=some n:=by
 have:indexByte (aM n) 46=-1:=index_none _ _ fun hc=>by
  have:=xU n 46 hc;exact absurd this (by decide)
 rw[rH,this,if_neg (by omega),zL h]
structure kS (m:aB):Prop where
 path:aF 9 6 m.path=(m.path,0)
 aa0:aQ m.path=true
 as7:m.path≠[]
 Fx:m.path.length≤200
 mode:0≤m.mode∧m.mode≤4095
 uid:0≤m.uid∧m.uid<2147483648
 gid:0≤m.gid∧m.gid<2147483648
 time:0≤m.time∧m.time≤1099511627776
 body:m.body.length≤1048576
 file:m.kind≠48→m.body=[]
 kind:m.kind=48∨m.kind=49∨m.kind=50∨m.kind=53
 none:m.kind=48∨m.kind=53→m.target=[]
 ae1:m.kind=49→aF 9 6 m.target=(m.target,0)
 sym:m.kind=50→iV 9 6 m.target=0
 aa2:aQ m.target=true
 Ku:m.target.length≤200
theorem Ad (h:aF 9 6 l=(l,0)):aQ l=true∧l≠[]∧l.length≤200:=by
 have h1:=(xR 9 6 (by omega) (by omega) l l).1 h;have A:=wZ 9 6 (by omega) (by omega) l l h;exact⟨h1.1,A.2.1,A.2.2.2⟩
theorem Hz (h:iV 9 6 l=0):aQ l=true∧l≠[]∧l.length≤200:=by
 unfold iV at h;split at h
 ·omega
 ·rename_i h1
  split at h
  ·omega
  ·rename_i A
   simp only[not_or]at A;exact⟨by simpa using h1,A.1,by omega⟩
theorem qT {m:aB} (h:cf m=true):kS m:=by
 simp only[cf,Bool.and_eq_true,jN,iU,decide_eq_true_eq,Bool.or_eq_true,beq_iff_eq]at h;obtain⟨⟨⟨⟨h1,U⟩,J⟩,L⟩,A⟩:=h;obtain⟨O,R,T⟩:=Ad h1
 have hk:(m.kind=48∨m.kind=49∨m.kind=50∨m.kind=53)∧((m.kind=48∨m.kind=53)→m.target=[])∧(m.kind=49→aF 9 6 m.target=(m.target,0))∧(m.kind=50→iV 9 6 m.target=0):=by
  split at A
  ·rename_i hk
   refine⟨by rcases hk with e|e<;>simp[e],fun _=>by simpa using A,fun e=>?_,fun e=>?_⟩<;>(rw[e]at hk;exact absurd hk (by decide))
  ·rename_i hk
   split at A
   ·rename_i B
    refine⟨by simp[B],fun e=>absurd e hk,fun _=>by simpa using A,fun e=>?_⟩;rw[B]at e;exact absurd e (by decide)
   ·rename_i B
    split at A
    ·rename_i N
     exact⟨by simp[N],fun e=>absurd e hk,fun e=>absurd e B,fun _=>by simpa using A⟩
    ·cases A
 obtain⟨G,D,H,I⟩:=hk
 have E:aQ m.target=true∧m.target.length≤200:=by
  rcases G with e|e|e|e
  ·rw[D (.inl e)];exact⟨zG,by simp⟩
  ·have:=Ad (H e);exact⟨this.1,this.2.2⟩
  ·have:=Hz (I e);exact⟨this.1,this.2.2⟩
  ·rw[D (.inr e)];exact⟨zG,by simp⟩
 exact⟨h1,O,R,T,by omega,by omega,by omega,by omega,J,fun M=>L.resolve_left M,G,D,H,I,E.1,E.2⟩
theorem E0 {m:aB} (h:kS m):∃H,nK (bJ m)=some H∧H.length=512∧aR H=(bJ m,0):=by
 refine O5 ?_ ?_ ?_
 ·show(o7 (if rb m then bN else m.path)).isSome=true
  split
  ·rfl
  ·rename_i A
   simp only[rb,Bool.or_eq_true,not_or,Bool.not_eq_true,Option.isNone_eq_false_iff]at A;exact A.1
 ·have I:(bJ m).name.contains 0=false:=by
   show(if rb m then bN else m.path).contains 0=false;split
   ·decide
   ·rw[List.contains_eq_mem,decide_eq_false_iff_not]
    exact fun D=>AP h.aa0 0 D rfl
  have J:(bJ m).link.contains 0=false:=by
   show(if pP m then bN else m.target).contains 0=false;split
   ·decide
   ·rw[List.contains_eq_mem,decide_eq_false_iff_not]
    exact fun D=>AP h.aa2 0 D rfl
  have hl:(bJ m).link.length≤100:=by
   show(if pP m then bN else m.target).length≤100;split
   ·decide
   ·rename_i A
    simp only[pP,Bool.or_eq_true,not_or,Bool.not_eq_true,decide_eq_false_iff_not]at A;omega
  have hk:(m.kind==0)=false:=by rcases h.kind with e|e|e|e<;>rw[e]<;>decide
  have L:((bJ m).kind==0)=false:=hk;have B:(bJ m).j7=false:=rfl;have E:decide (100<(bJ m).link.length)=false:=decide_eq_false (by omega);simp only[ug,I,J,L,B,E,Bool.or_false]
 ·refine jV.2 fun i h1 M=>?_
  have hm:=h.mode;have hu:=h.uid;have B:=h.gid;have G:=h.time;have N:=h.body;obtain rfl|rfl|rfl|rfl|rfl:i=1∨i=2∨i=3∨i=4∨i=5:=by omega
  ·exact Ay (n:=m.mode) hm.1 (by omega)
  ·show(nJ (if 2097151<m.uid then 0 else m.uid) 8).isSome=true
   split
   ·exact Ay (by omega) (by omega)
   ·exact Ay hu.1 (by omega)
  ·show(nJ (if 2097151<m.gid then 0 else m.gid) 8).isSome=true
   split
   ·exact Ay (by omega) (by omega)
   ·exact Ay B.1 (by omega)
  ·exact Df (n:=(m.body.length:Int)) (by omega) (by omega)
  ·show(nJ (if 8589934591<m.time then 0 else m.time) 12).isSome=true
   split
   ·exact Df (by omega) (by omega)
   ·exact Df G.1 (by omega)
theorem XS (name:List UInt8) (hn:name.length≤100) (hz:name.contains 0=false) (k:UInt8) (hk:k≠0) (n:Nat) (hs:n≤1048576):∃H,nK ⟨name,[],k,0,0,0,0,(n:Int),false⟩=some H∧H.length=512∧aR H=(⟨name,[],k,0,0,0,0,(n:Int),false⟩,0):=by
 refine O5 (by rw[xb hn];rfl) ?_ (jV.2 fun i h1 A=>?_)
 ·have:(k==0)=false:=beq_eq_false_iff_ne.2 hk
  simp only[ug,hz,this,List.length_nil,List.contains_nil,Bool.or_false];rfl
 ·obtain rfl|rfl|rfl|rfl|rfl:i=1∨i=2∨i=3∨i=4∨i=5:=by omega
  ·exact Ay (n:=0) (by omega) (by omega)
  ·exact Ay (n:=0) (by omega) (by omega)
  ·exact Ay (n:=0) (by omega) (by omega)
  ·exact Df (n:=(n:Int)) (by omega) (by omega)
  ·exact Df (n:=0) (by omega) (by omega)
theorem J1 {n:Nat} (hs:n≤1048576):∃H,nK (Hi n)=some H∧H.length=512∧aR H=(Hi n,0):=XS as8 (by decide) (by decide) 120 (by decide) n hs
theorem ym (i:Nat) (hi:i<6) (h1:aQ v=true) (h2:v.length≤200):pk (aJ i) v=true:=by
 have hk:(aJ i).contains 61=false∧(aJ i).isEmpty=false∧aQ (aJ i)=true∧(aJ i).length≤8:=by
  obtain rfl|rfl|rfl|rfl|rfl|rfl:i=0∨i=1∨i=2∨i=3∨i=4∨i=5:=by omega
  all_goals exact⟨by decide,by decide,B0 _ (by decide),by decide⟩
 obtain⟨A,B,D,E⟩:=hk;simp only[pk,A,B,D,h1,Bool.not_false,Bool.true_and,decide_eq_true_eq];omega
theorem Gm (h0:0≤n) (h:n≤1099511627776):(aM n.toNat).length≤18:=uA _ 18 (by omega) (by omega)
theorem qI {m:aB} (h:kS m):∀r∈bq m,pk r.1 r.2=true:=by
 intro r hr;have hu:=h.uid;have A:=h.gid;have B:=h.time;simp only[bq,List.mem_append]at hr
 have d:∀(c:Prop) [Decidable c] (k v:List UInt8),r∈(if c then[(k,v)]else[])→r=(k,v):=fun c _ k v hr=>by
  split at hr
  ·exact List.mem_singleton.1 hr
  ·cases hr
 rcases hr with(((hr|hr)|hr)|hr)|hr<;>(have e:=d _ _ _ hr;subst e)
 ·exact ym 4 (by omega) h.aa0 h.Fx
 ·exact ym 5 (by omega) h.aa2 h.Ku
 ·exact ym 0 (by omega) (Ca _) (by have:=Gm hu.1 (by omega);show(aM _).length≤200;omega)
 ·exact ym 1 (by omega) (Ca _) (by have:=Gm A.1 (by omega);show(aM _).length≤200;omega)
 ·exact ym 2 (by omega) (Ca _) (by have:=Gm B.1 (by omega);show(aM _).length≤200;omega)
theorem wJ {l:bW} (h:∀r∈l,pk r.1 r.2=true):aO 5 9 (bc l)=(l,0):=by
 have:=Ni 5 9 l [] [] h;rw[List.append_nil,List.nil_append,tO]at this;exact this
theorem JF {n:Nat}:∀{l:bW},(∀r∈l,pk r.1 r.2=true∧r.1.length+r.2.length≤n)→(bc l).length≤l.length*(n+10)
 |[],_=>by simp[bc]
 |r::l,h=>by
  have E:=JF fun x B=>h x (List.mem_cons_of_mem _ B)
  obtain⟨h1,D⟩:=h r (List.mem_cons_self ..);obtain⟨d,_,_,_,_,A,_,hlen⟩:=xj h1;have e:bc (r::l)=jy r.1 r.2++bc l:=by simp[bc]
  rw[e,Qf,hlen,List.length_cons,Nat.succ_mul];omega
theorem U1 (c:Prop) [Decidable c] (k v q:List UInt8):aD (if c then[(k,v)]else[]) q=if c∧k=q then some v else none:=by
 by_cases h:c
 ·by_cases hk:k=q<;>simp[aD,h,hk]
 ·simp[aD,h]
theorem Nh (m:aB):aD (bq m) (aJ 0)=(if 2097151<m.uid then some (aM m.uid.toNat)else none)∧aD (bq m) (aJ 1)=(if 2097151<m.gid then some (aM m.gid.toNat)else none)∧
 aD (bq m) (aJ 2)=(if 8589934591<m.time then some (aM m.time.toNat)else none)∧aD (bq m) (aJ 3)=none∧aD (bq m) (aJ 4)=(if rb m=true then some m.path else none)∧
 aD (bq m) (aJ 5)=(if pP m=true then some m.target else none):=by
 unfold bq;simp only[sF,U1];have g:¬aJ 1=aJ 0:=by decide
 have M:¬aJ 2=aJ 0:=by decide
 have U:¬aJ 4=aJ 0:=by decide
 have Z:¬aJ 5=aJ 0:=by decide
 have A:¬aJ 0=aJ 1:=by decide
 have N:¬aJ 2=aJ 1:=by decide
 have V:¬aJ 4=aJ 1:=by decide
 have b:¬aJ 5=aJ 1:=by decide
 have B:¬aJ 0=aJ 2:=by decide
 have H:¬aJ 1=aJ 2:=by decide
 have W:¬aJ 4=aJ 2:=by decide
 have c:¬aJ 5=aJ 2:=by decide
 have D:¬aJ 0=aJ 3:=by decide
 have I:¬aJ 1=aJ 3:=by decide
 have O:¬aJ 2=aJ 3:=by decide
 have X:¬aJ 4=aJ 3:=by decide
 have d:¬aJ 5=aJ 3:=by decide
 have E:¬aJ 0=aJ 4:=by decide
 have J:¬aJ 1=aJ 4:=by decide
 have R:¬aJ 2=aJ 4:=by decide
 have f:¬aJ 5=aJ 4:=by decide
 have G:¬aJ 0=aJ 5:=by decide
 have L:¬aJ 1=aJ 5:=by decide
 have T:¬aJ 2=aJ 5:=by decide
 have Y:¬aJ 4=aJ 5:=by decide
 simp only[g,M,U,Z,A,N,V,b,B,H,W,c,D,I,O,X,d,E,J,R,f,G,L,T,Y,and_true,and_false,if_false];refine⟨?_,?_,?_,?_,?_,?_⟩
 ·by_cases h:2097151<m.uid<;>simp[h]
 ·by_cases h:2097151<m.gid<;>simp[h]
 ·by_cases h:8589934591<m.time<;>simp[h]
 ·simp
 ·simp
 ·by_cases h:pP m=true<;>simp[h]
def Ci (F:List UInt8→Option (List UInt8)):Prop:=
 (∀i,1≤i→i<6→(F (aJ i)).getD []=[])∧((F (aJ 0)).getD []=[]∨∃n,bA ((F (aJ 0)).getD [])=some n∧n<2147483648)
theorem QK:Ci (aD []):=⟨fun i _ _=>rfl,.inl rfl⟩
def Es (F:List UInt8→Option (List UInt8)) (m:aB):Int:=
 if 2097151<m.uid then m.uid else if(F (aJ 0)).getD []=[]then m.uid else(((bA ((F (aJ 0)).getD [])).getD 0:Nat):Int)
def vx (F:List UInt8→Option (List UInt8)) (m:aB):aB:={m with uid:=Es F m}
theorem SC (m:aB):vx (aD []) m=m:=by
 have:Es (aD []) m=m.uid:=by
  unfold Es;split
  ·rfl
  ·exact if_pos rfl
 unfold vx;rw[this]
theorem Za {m:aB} (hF:Ci F) (h:kS m):0≤Es F m∧Es F m<2147483648:=by
 unfold Es;have:=h.uid;split
 ·exact this
 ·split
  ·exact this
  ·rename_i h1 A
   obtain⟨n,B,hl⟩:=hF.2.resolve_left A;rw[B];simp only[Option.getD_some];omega
theorem IK {m:aB} (hF:Ci F) (h:kS m):
 cC F (bq m) (bJ m)=(⟨m.path,m.target,m.kind,m.mode,Es F m,m.gid,m.time,(m.body.length:Int),false⟩,0):=by
 obtain⟨D,E,G,H,I,J⟩:=Nh m;obtain⟨f,f0⟩:=hF;have hu:=h.uid;have O:=h.gid;have R:=h.time
 have L:jf false (jw F (bq m) (aJ 0)) (bJ m).uid=some (Es F m):=by
  have e:(bJ m).uid=if 2097151<m.uid then 0 else m.uid:=rfl
  unfold jw Es;rw[D,e]
  by_cases hc:2097151<m.uid
  ·simp only[if_pos hc]
   unfold jf;rw[if_neg (LF _)];simp only[Bool.false_eq_true,if_false];rw[zL (by omega)];simp only[Option.map_some]
   congr 1
   show((m.uid.toNat:Nat):Int)=m.uid;omega
  ·simp only[if_neg hc]
   unfold jf
   by_cases A:(F (aJ 0)).getD []=[]
   ·rw[if_pos A,if_pos A]
   ·rw[if_neg A,if_neg A]
    obtain⟨n,B,_⟩:=f0.resolve_left A;simp only[Bool.false_eq_true,if_false];rw[B];rfl
 have M:jf false (jw F (bq m) (aJ 1)) (bJ m).gid=some m.gid:=by
  have e:(bJ m).gid=if 2097151<m.gid then 0 else m.gid:=rfl
  unfold jw;rw[E,e]
  by_cases hc:2097151<m.gid
  ·simp only[if_pos hc]
   unfold jf;rw[if_neg (LF _)];simp only[Bool.false_eq_true,if_false];rw[zL (by omega)];simp only[Option.map_some]
   congr 1
   show((m.gid.toNat:Nat):Int)=m.gid;omega
  ·simp only[if_neg hc]
   unfold jf;rw[if_pos (f 1 (by omega) (by omega))]
 have N:jf true (jw F (bq m) (aJ 2)) (bJ m).time=some m.time:=by
  have e:(bJ m).time=if 8589934591<m.time then 0 else m.time:=rfl
  unfold jw;rw[G,e]
  by_cases hc:8589934591<m.time
  ·simp only[if_pos hc]
   unfold jf;rw[if_neg (LF _)];simp only[if_true];rw[Y5 (by omega)];simp only[Option.map_some]
   congr 1
   show((m.time.toNat:Nat):Int)=m.time;omega
  ·simp only[if_neg hc]
   unfold jf;rw[if_pos (f 2 (by omega) (by omega))]
 have n3:jf false (jw F (bq m) (aJ 3)) (bJ m).size=some (m.body.length:Int):=by
  unfold jw;rw[H];unfold jf;rw[if_pos (f 3 (by omega) (by omega))];rfl
 have n4:aE (jw F (bq m) (aJ 4)) (bJ m).name=m.path:=by
  have e:(bJ m).name=if rb m then bN else m.path:=rfl
  unfold jw;rw[I,e]
  by_cases hc:rb m=true
  ·simp only[if_pos hc]
   unfold aE;rw[if_neg h.as7]
  ·simp only[if_neg hc]
   unfold aE;rw[if_pos (f 4 (by omega) (by omega))]
 have n5:aE (jw F (bq m) (aJ 5)) (bJ m).link=m.target:=by
  have e:(bJ m).link=if pP m then bN else m.target:=rfl
  unfold jw;rw[J,e]
  by_cases hc:pP m=true
  ·simp only[if_pos hc]
   unfold aE;rw[if_neg];intro e;rw[pP,e]at hc;simp[sx]at hc
  ·simp only[if_neg hc]
   unfold aE;rw[if_pos (f 5 (by omega) (by omega))]
 unfold cC jt;simp only[L,M,N,n3,n4,n5];rfl
theorem JJ {m:aB} (h:kS m) {s:RS} (hF:Ci (aD s.bE)) (ho:s.own=bq m) (hn:s.name=none) (hl:s.link=none):
 jF (bJ m) s=.ok ({vx (aD s.bE) m with body:=[]},(m.body.length:Int)):=by
 have ha:=IK hF h;have e:({bJ m with name:=s.name.getD (bJ m).name,link:=s.link.getD (bJ m).link}:af)=bJ m:=by rw[hn,hl];rfl
 have hu:=Za hF h
 have hm:iU m.mode (Es (aD s.bE) m) m.gid m.time=true:=by
  have h1:=h.mode;have B:=h.gid;have D:=h.time;simp only[iU,decide_eq_true_eq];omega
 unfold jF;simp only[ho,e,ha]
 rw[if_neg (by simp),h.path,if_neg (by simp),hm,if_neg (by simp),if_neg (by rintro⟨hk,hd⟩;rw[h.ae1 hk]at hd;exact hd rfl),if_neg (by rintro⟨hk,hd⟩;exact hd (h.sym hk)),
  if_neg (by rintro⟨hk,hd⟩;rw[h.file hk]at hd;exact hd rfl),if_neg (by have:=h.body;omega)]
 have A:(if m.kind=49 then(aF 9 6 m.target).1 else if m.kind=50 then m.target else[])=m.target:=by
  split
  ·rename_i hk
   rw[h.ae1 hk]
  ·rename_i hk
   split
   ·rfl
   ·rename_i E
    exact(h.none (by rcases h.kind with e|e|e|e<;>simp_all)).symm
 rw[A];rfl
theorem L5 (hr:aR H=(h,0)):aj H 9=kf∨aj H 9=xZ:=by
 unfold aR at hr;split at hr
 ·cases (Prod.mk.inj hr).2
 ·split at hr
  ·cases (Prod.mk.inj hr).2
  ·split at hr
   ·cases (Prod.mk.inj hr).2
   ·rename_i _ _ B
    by_cases h1:aj H 9=kf
    ·exact .inl h1
    ·by_cases A:aj H 9=xZ
     ·exact .inr A
     ·exact absurd ⟨h1,A⟩ B
theorem Gy (hr:aR H=(h,0)):bZ H=false:=by
 cases A:bZ H with
 |false=>rfl
 |true=>
  have hm:(117:UInt8)∈aj H 9∨(117:UInt8)∈aj H 9:=by
   rcases L5 hr with e|e<;>rw[e]<;>simp[kf,xZ]
  have hm:(117:UInt8)∈H:=List.mem_of_mem_drop (List.mem_of_mem_take (hm.elim id id));rw[bZ,List.all_eq_true]at A;exact absurd (A 117 hm) (by decide)
theorem DF (hL:512≤L.length) (hH:L.take 512=H) (hr:aR H=(h,0)) (s:RS):aG L s=if tZ h.kind then ji L h s else oo L h s:=by
 unfold aG;rw[if_neg (by omega),hH,Gy hr,if_neg (by simp),hr,if_neg (by simp)]
theorem FZ {X:List UInt8} (hH:H.length=512):(H++X).take 512=H:=by rw[←hH,List.take_left'];rfl
theorem aj2 (hH:H.length=512) (hr:aR H=(h,0)) (hk:h.kind=120) (hz:h.size=(body.length:Int)) (hb:body.length≤1048576) {rs:bW} (oJ:aO 5 9 body=(rs,0)) (rest:List UInt8) (s:RS) (hx:s.iT=false):
 aG (H++(sK body++rest)) s=.next (512+aw body.length) {s with iT:=true,own:=rs}:=by
 rw[DF (by rw[Qf];omega) (FZ hH) hr,hk,if_pos (by decide),ji,hk,if_neg (by simp[hx]),hz,if_neg (by omega),EI H body rest hH (by omega)];simp only[oJ];rfl
theorem aD0 {k:UInt8} (h:k=48∨k=49∨k=50∨k=53):tZ k=false∧¬(k≠48∧k≠49∧k≠50∧k≠53):=by
 rcases h with e|e|e|e<;>rw[e]<;>exact⟨by decide,by decide⟩
theorem aj1 (hH:H.length=512) (hr:aR H=(h,0)) (hk:h.kind=48∨h.kind=49∨h.kind=50∨h.kind=53) {m:aB} {s:RS} (hm:jF h s=.ok (m,(body.length:Int))) (hb:body.length≤1048576) (rest:List UInt8) (ho:s.out.length<4096):
 aG (H++(sK body++rest)) s=.next (512+aw body.length) {s with out:=s.out++[{m with body:=body}],own:=[],name:=none,link:=none,iT:=false}:=by
 obtain⟨A,B⟩:=aD0 hk;rw[DF (by rw[Qf];omega) (FZ hH) hr,A,if_neg (by simp),oo,if_neg (by omega),if_neg B,hm];simp only;rw[EI H body rest hH (by omega)]
theorem zE (h:L.length<512) (s:RS):aG L s=.fault 2:=by
 unfold aG;rw[if_pos h]
structure KP (s:RS):Prop where
 own:s.own=[]
 name:s.name=none
 link:s.link=none
 iT:s.iT=false
theorem DC:KP nU:=⟨rfl,rfl,rfl,rfl⟩
def uO (s:RS) (ms:List aB):RS:={s with out:=s.out++ms}
theorem CW {s:RS} (h:KP s) (ms:List aB):KP (uO s ms):=⟨h.own,h.name,h.link,h.iT⟩
theorem B4 {s:RS} (h:KP s) (ms:List aB):({s with out:=s.out++ms,own:=[],name:=none,link:=none,iT:=false}:RS)=uO s ms:=by
 obtain⟨h1,A,B,D⟩:=h
 cases s
 simp only at h1 A B D;subst h1;subst A;subst B;subst D;rfl
theorem NK (F:List UInt8→Option (List UInt8)) (m:aB):({({vx F m with body:=[]}:aB)with body:=m.body}:aB)=vx F m:=rfl
theorem Fg {l:bW} (hm:∀r∈l,pk r.1 r.2=true) (h:bc l=[]):l=[]:=by
 have h1:=wJ hm;rw[h]at h1;have A:aO 5 9 []=([],0):=rfl;rw[A]at h1;exact(Prod.mk.inj h1).1.symm
theorem sH {m:aB} (h:kS m):(bc (bq m)).length≤1048576:=by
 have h1:=qI h
 have B:(bq m).length≤5:=by
  have d:∀(c:Prop) [Decidable c] (k v:List UInt8),(if c then[(k,v)]else[]).length≤1:=fun c _ k v=>by split<;>simp
  simp only[bq,Qf];have d1:=d (rb m=true) (aJ 4) m.path;have d2:=d (pP m=true) (aJ 5) m.target;have d3:=d (2097151<m.uid) (aJ 0) (aM m.uid.toNat);have d4:=d (2097151<m.gid) (aJ 1) (aM m.gid.toNat);have d5:=d (8589934591<m.time) (aJ 2) (aM m.time.toNat);omega
 have D:=JF (n:=100000) fun r A=>⟨h1 r A,(sJ (h1 r A)).2.2.2.2⟩
 have E:(bq m).length*(100000+10)≤5*(100000+10):=Nat.mul_le_mul_right _ B;omega
theorem yC {m:aB} (h:kS m):∃H,nK (bJ m)=some H∧H.length=512∧aR H=(bJ m,0)∧
 ((bq m=[]∧rq m=H++sK m.body)∨∃X,nK (Hi (bc (bq m)).length)=some X∧X.length=512∧aR X=(Hi (bc (bq m)).length,0)∧rq m=X++sK (bc (bq m))++(H++sK m.body)):=by
 obtain⟨H,h1,B,D⟩:=E0 h;refine⟨H,h1,B,D,?_⟩
 by_cases hl:bc (bq m)=[]
 ·refine .inl ⟨Fg (qI h) hl,?_⟩
  rw[rq,if_pos hl,h1];rfl
 ·obtain⟨X,A,E,G⟩:=J1 (sH h)
  refine .inr ⟨X,A,E,G,?_⟩;rw[rq,if_neg hl,h1,A];rfl
theorem FA {m:aB} (h:kS m) (hH:H.length=512) (hr:aR H=(bJ m,0)) {s:RS} (hF:Ci (aD s.bE)) (ho:s.own=bq m) (hn:s.name=none) (hl:s.link=none) (hs:s.out.length<4096) (rest:List UInt8) (at_:Nat):
 bY (H++(sK m.body++rest)) at_ s=bY rest (at_+(512+aw m.body.length)) {s with out:=s.out++[vx (aD s.bE) m],own:=[],name:=none,link:=none,iT:=false}:=by
 rw[kL (aj1 hH hr h.kind (JJ h hF ho hn hl) h.body rest hs),I0 H m.body rest hH,NK]
theorem VS {m:aB} (h:kS m) {s:RS} (hs:KP s) (hF:Ci (aD s.bE)) (ho:s.out.length<4096) (rest:List UInt8) (at_:Nat):
 bY (rq m++rest) at_ s=bY rest (at_+(rq m).length) (uO s [vx (aD s.bE) m]):=by
 obtain⟨H,_,A,B,hl⟩:=yC h;rcases hl with⟨hr,e⟩|⟨X,_,x2,x3,e⟩
 ·have hlen:(rq m).length=512+aw m.body.length:=by rw[e,Qf,A,jz]
  rw[hlen,e,List.append_assoc,FA h A B hF (by rw[hs.own,hr]) hs.name hs.link ho,B4 hs]
 ·have hlen:(rq m).length=512+aw (bc (bq m)).length+(512+aw m.body.length):=by
   rw[e,Qf,Qf,Qf,A,x2,jz,jz]
  rw[hlen,e,List.append_assoc,List.append_assoc,kL (aj2 x2 x3 rfl rfl (sH h) (wJ (qI h)) _ s hs.iT),I0 X _ _ x2,List.append_assoc,
   FA (s:={s with iT:=true,own:=bq m}) h A B hF rfl hs.name hs.link ho,Nat.add_assoc]
  congr 1
  exact B4 hs _
def jE (ms:List aB):List UInt8:=(ms.map rq).flatten
theorem qA (m:aB) (ms:List aB):jE (m::ms)=rq m++jE ms:=by simp[jE]
theorem J4 (a b:List aB):jE (a++b)=jE a++jE b:=by simp[jE]
theorem xQ (ms:List aB):EC ms=jE ms++List.replicate 1024 0:=rfl
theorem ML (s:RS) (a b:List aB):uO (uO s a) b=uO s (a++b):=by simp[uO]
theorem CX (s:RS) (a:List aB):(uO s a).bE=s.bE:=rfl
theorem Fi (s:RS) (a:List aB):(uO s a).out=s.out++a:=rfl
theorem Kb:∀(ms:List aB) {s:RS} (hs:KP s) (hF:Ci (aD s.bE)) (h:∀m∈ms,kS m) (ho:s.out.length+ms.length≤4096) (rest:List UInt8) (at_:Nat),
 bY (jE ms++rest) at_ s=bY rest (at_+(jE ms).length) (uO s (ms.map (vx (aD s.bE))))
 |[],s,hs,hF,h,ho,rest,at_=>by simp[jE,uO]
 |m::ms,s,hs,hF,h,ho,rest,at_=>by
  have hl:s.out.length+(ms.length+1)≤4096:=ho
  rw[qA,List.append_assoc,VS (h m (List.mem_cons_self ..)) hs hF (by omega),
   Kb ms (CW hs _) (by rw[CX];exact hF) (fun x A=>h x (List.mem_cons_of_mem _ A)) (by rw[Fi,Qf];simp only[List.length_cons,List.length_nil];omega),
   ML,CX,Qf,Nat.add_assoc]
  rfl
theorem AR (n:Nat):bZ (List.replicate n 0)=true:=by
 rw[bZ,List.all_eq_true];intro x A;rw[(List.mem_replicate.1 A).2];rfl
theorem ac8 {s:RS} (hs:KP s) (n:Nat) (hn:1024≤n) (at_:Nat):bY (List.replicate n 0) at_ s=(s.out,0,0):=by
 refine nL ?_ at_;unfold aG
 rw[if_neg (by rw[List.length_replicate];omega),List.take_replicate,AR,if_pos rfl,if_neg (by rw[List.length_replicate];omega),List.drop_replicate,AR,if_neg (by simp),
  if_neg (by rw[hs.iT,hs.name,hs.link];simp)]
theorem Eg (ms:List aB):ms.map (vx (aD []))=ms:=by
 have:vx (aD [])=id:=funext SC;rw[this,List.map_id]
theorem RR {ms:List aB} (h:∀m∈ms,kS m) (hl:ms.length≤4096) (n:Nat):cu (EC ms++List.replicate n 0)=(ms,0,0):=by
 rw[cu,xQ,List.append_assoc,List.replicate_append_replicate,Kb ms DC QK h (by show 0+ms.length≤4096;omega),ac8 (CW DC _) _ (by omega),Fi];show([]++ms.map (vx (aD [])),(0:Int),0)=_;rw[Eg,List.nil_append]
theorem IJ (h0:(jt V h).2=0):(jt V h).1.kind=h.kind:=by
 unfold jt at h0⊢;split
 ·rfl
 ·rename_i G
  exfalso;split at h0
  ·rename_i u g t s A B D E
   exact G u g t s A B D E
  ·simp at h0
theorem MI {s:RS} {m:aB} (hm:jF h s=.ok (m,n)) (hk:¬(h.kind≠48∧h.kind≠49∧h.kind≠50∧h.kind≠53)) (ht:t.length≤n.toNat):cf {m with body:=t}=true:=by
 unfold jF at hm;simp only at hm;generalize ha:cC (aD s.bE) s.own {h with name:=s.name.getD h.name,link:=s.link.getD h.link}=a at hm;split at hm
 ·cases hm
 rename_i B;have B:a.2=0:=Decidable.of_not_not B
 have I:a.1.kind=h.kind:=by
  rw[←ha]at B⊢;exact IJ B
 split at hm
 ·cases hm
 rename_i hc;have hc:aF 9 6 a.1.name=((aF 9 6 a.1.name).1,0):=Prod.ext rfl (Decidable.of_not_not hc);split at hm
 ·cases hm
 rename_i H;split at hm
 ·cases hm
 rename_i hd;split at hm
 ·cases hm
 rename_i L;split at hm
 ·cases hm
 rename_i hf;split at hm
 ·cases hm
 rename_i hs
 cases hm
 have c1:=(wZ 9 6 (by omega) (by omega) _ _ hc).1
 have k:a.1.kind=48∨a.1.kind=49∨a.1.kind=50∨a.1.kind=53:=by
  rw[I]
  by_cases A:h.kind=48
  ·exact .inl A
  by_cases D:h.kind=49
  ·exact .inr (.inl D)
  by_cases E:h.kind=50
  ·exact .inr (.inr (.inl E))
  by_cases M:h.kind=53
  ·exact .inr (.inr (.inr M))
  exact absurd ⟨A,D,E,M⟩ hk
 have J:iU a.1.mode a.1.uid a.1.gid a.1.time=true:=by simpa using H
 have G:a.1.kind=48∨t=[]:=by
  by_cases A:a.1.kind=48
  ·exact .inl A
  ·refine .inr (List.length_eq_zero_iff.1 ?_)
   have:a.1.size=0:=Decidable.of_not_not fun e=>hf ⟨A,e⟩
   rw[this]at ht
   simpa using ht
 have hlen:t.length≤1048576:=by omega
 have O:jN (aF 9 6 a.1.name).1=true:=by rw[jN,c1];simp
 have R:(a.1.kind==48||t==[])=true:=by rcases G with e|e<;>simp[e]
 simp only[cf,O,J,hlen,decide_true,R,Bool.true_and]
 by_cases A:a.1.kind=48∨a.1.kind=53
 ·rw[if_pos A,if_neg (by rcases A with e|e<;>rw[e]<;>decide),if_neg (by rcases A with e|e<;>rw[e]<;>decide)]
  rfl
 ·rw[if_neg A]
  by_cases D:a.1.kind=49
  ·have N:aF 9 6 a.1.link=((aF 9 6 a.1.link).1,0):=Prod.ext rfl (Decidable.of_not_not fun e=>hd ⟨D,e⟩)
   rw[if_pos D,if_pos D,jN,(wZ 9 6 (by omega) (by omega) _ _ N).1];simp
  ·have E:a.1.kind=50:=by
    rcases k with e|e|e|e
    ·exact absurd (.inl e) A
    ·exact absurd e D
    ·exact e
    ·exact absurd (.inr e) A
   rw[if_neg D,if_neg D,if_pos E,if_pos E];exact decide_eq_true (Decidable.of_not_not fun e=>L ⟨E,e⟩)
theorem DE {s:RS} (h:aG l s=.fault e):e≠0:=by
 unfold aG at h;split at h
 ·cases h;omega
 split at h
 ·split at h
  ·cases h;omega
  split at h
  ·cases h;omega
  split at h
  ·cases h;omega
  ·cases h
 split at h
 ·rename_i A
  cases h;exact A
 split at h
 ·unfold ji at h
  split at h
  ·cases h;omega
  split at h
  ·cases h;omega
  split at h
  ·cases h;omega
  split at h
  ·cases h
  split at h
  ·cases h
  split at h
  ·rename_i A
   cases h;exact A
  split at h<;>cases h
 ·unfold oo at h
  split at h
  ·cases h;omega
  split at h
  ·cases h;omega
  split at h
  ·rename_i B hm
   cases h
   unfold jF at hm;simp only at hm;split at hm
   ·rename_i A;cases hm;exact A
   split at hm
   ·rename_i A;cases hm;exact A
   split at hm
   ·cases hm;omega
   split at hm
   ·rename_i A;cases hm;exact A.2
   split at hm
   ·rename_i A;cases hm;exact A.2
   split at hm
   ·cases hm;omega
   split at hm
   ·cases hm;omega
   ·cases hm
  split at h
  ·cases h;omega
  ·cases h
theorem B6 (n:Nat):aw n % 512=0:=Nat.mul_mod_left _ _
theorem Ny {s s':RS} (h:aG l s=.next k s') (hg:∀m∈s.out,cf m=true):k % 512=0∧∀m∈s'.out,cf m=true:=by
 unfold aG at h;split at h
 ·cases h
 split at h
 ·split at h
  ·cases h
  split at h
  ·cases h
  split at h<;>cases h
 split at h
 ·cases h
 split at h
 ·unfold ji at h
  split at h
  ·cases h
  split at h
  ·cases h
  split at h
  ·cases h
  rename_i t k' A;have hk:=(tf A).1;have A:=B6 (aR (l.take 512)).1.size.toNat;split at h
  ·cases h;exact⟨by omega,hg⟩
  split at h
  ·cases h;exact⟨by omega,hg⟩
  split at h
  ·cases h
  split at h<;>(cases h;exact⟨by omega,hg⟩)
 ·unfold oo at h
  split at h
  ·cases h
  split at h
  ·cases h
  rename_i B;split at h
  ·cases h
  rename_i m n hm;split at h
  ·cases h
  rename_i t k' A;obtain⟨hk,_,D,_⟩:=tf A;have A:=B6 n.toNat
  cases h
  refine⟨by omega,fun x hx=>?_⟩;rcases List.mem_append.1 hx with hx|hx
  ·exact hg x hx
  ·rw[List.mem_singleton.1 hx]
   exact MI hm B (by rw[D,Qg];omega)
theorem Nb (N:Nat):∀(l:List UInt8) (at_:Nat) (s:RS),l.length≤N→at_ % 512=0→(∀m∈s.out,cf m=true)→∀ms e a,bY l at_ s=(ms,e,a)→
 (e≠0∧ms=[]∧a≤at_+l.length∧a % 512=0)∨(e=0∧a=0∧∀m∈ms,cf m=true):=by
 induction N with
 |zero=>
  intro l at_ s hl ha A ms e a h;rw[ke (zE (by omega) s)]at h
  cases h
  exact .inl ⟨by omega,rfl,by omega,ha⟩
 |succ N ih=>
  intro l at_ s hl ha A ms e a h
  cases hs:aG l s with
  |fault f=>
   rw[ke hs]at h
   cases h
   exact .inl ⟨DE hs,rfl,by omega,ha⟩
  |done=>
   rw[nL hs]at h
   cases h
   exact .inr ⟨rfl,rfl,A⟩
  |next k H=>
   rw[kL hs]at h;obtain⟨D,E⟩:=qK hs;obtain⟨G,B⟩:=Ny hs A;rcases ih _ _ _ (by rw[Qe];omega) (by omega) B _ _ _ h with⟨r1,r2,r3,r4⟩|r
   ·rw[Qe]at r3
    exact .inl ⟨r1,r2,by omega,r4⟩
   ·exact .inr r
theorem uN {ms:List aB} {a:Nat} (h:cu b=(ms,e,a)):(e≠0∧ms=[]∧a≤b.length∧a % 512=0)∨(e=0∧a=0∧∀m∈ms,cf m=true):=by
 have:=Nb b.length b 0 nU (Qk _) rfl (fun m hm=>by cases hm) ms e a h
 rwa [Nat.zero_add]at this
theorem Kf {R T:Int} {k:List UInt8} {m:Nat} (h:aZ R T l=.ok (k,v,m)):k.length+v.length≤l.length:=by
 unfold aZ at h;split at h
 ·cases h
 ·split at h
  ·cases h
  ·dsimp only at h
   split at h
   ·cases h
   ·split at h
    ·cases h
    ·cases h
     simp only[Qg,Qe];omega
theorem Ng (R T:Int) (L:Nat):∀(n:Nat) (l:List UInt8) (acc:bW),l.length≤L→(∀r∈acc,r.1.length+r.2.length≤L)→acc.length+l.length≤L→(∀r∈(pw R T n l acc).1,r.1.length+r.2.length≤L)∧(pw R T n l acc).1.length≤L:=by
 intro n
 induction n with
 |zero=>intro l acc h1 A B;exact⟨A,by simp only[pw];omega⟩
 |succ n ih=>
  intro l acc h1 A B;rw[pw]
  by_cases hl:l=[]
  ·rw[if_pos hl];exact⟨A,by simp only;omega⟩
  ·rw[if_neg hl]
   cases hs:aZ R T l with
   |error e=>exact⟨fun r hr=>by simp at hr,by simp⟩
   |ok x=>
    obtain⟨k,v,m⟩:=x;have D:=uY hs;have E:=Kf hs;refine ih _ _ (by rw[Qe];omega) (fun r hr=>?_) (by rw[Qe,Qf,List.length_singleton];omega);rcases List.mem_append.1 hr with hr|hr
    ·exact A r hr
    ·rw[List.mem_singleton]at hr
     subst hr;show k.length+v.length≤L;omega
theorem sN (R T:Int) (l:List UInt8):(∀r∈(aO R T l).1,r.1.length+r.2.length≤l.length)∧(aO R T l).1.length≤l.length:=
 Ng R T l.length l.length l [] (Qk _) (fun r A=>by simp at A) (by simp)
theorem rB (l:List UInt8):(av l).length≤l.length:=(List.takeWhile_sublist _).length_le
theorem Zc (bs:List UInt8) (i:Nat):0≤iW bs i:=by
 unfold iW
 cases h:aY (aj bs i)with
 |none=>exact Int.le_refl _
 |some r=>exact(RE h).1
theorem zd (bs:List UInt8) (i:Nat):(aj bs i).length≤aq i:=by
 unfold aj;rw[Qg];omega
theorem sA (bs:List UInt8):0≤(aR bs).1.size∧(aR bs).1.name.length≤1000∧(aR bs).1.link.length≤1000:=by
 unfold aR;split
 ·exact⟨by decide,by decide,by decide⟩
 ·split
  ·exact⟨by decide,by decide,by decide⟩
  ·split
   ·exact⟨by decide,by decide,by decide⟩
   ·split
    ·refine⟨Zc bs 4,?_,?_⟩
     ·show(o4 _ _ _).length≤1000
      have h1:=rB (aj bs 10);have D:=rB (aj bs 0);have A:=zd bs 10;have E:=zd bs 0;have B:aq 10≤400:=by decide
      have G:aq 0≤400:=by decide
      unfold o4;split
      ·omega
      ·simp only[Qf,List.length_cons];omega
     ·show(av _).length≤1000
      have h1:=rB (aj bs 8);have A:=zd bs 8;have B:aq 8≤400:=by decide
      omega
    ·exact⟨by decide,by decide,by decide⟩
theorem EB (L:Nat) (hV:∀i,i<6→(V i).length≤L) (h0:0≤h.size) (h1:h.name.length≤L) (h2:h.link.length≤L):0≤(jt V h).1.size∧(jt V h).1.name.length≤L∧(jt V h).1.link.length≤L:=by
 unfold jt;split
 ·rename_i u g t s B D E A
  refine⟨?_,?_,?_⟩
  ·show 0≤s
   unfold jf at A;split at A
   ·cases A;exact h0
   ·simp only[Bool.false_eq_true,if_false]at A
    cases hw:bA (V 3)with
    |none=>rw[hw]at A;cases A
    |some n=>rw[hw]at A;cases A;exact Int.natCast_nonneg n
  ·show(aE (V 4) h.name).length≤L
   unfold aE;split
   ·exact h1
   ·exact hV 4 (by omega)
  ·show(aE (V 5) h.link).length≤L
   unfold aE;split
   ·exact h2
   ·exact hV 5 (by omega)
 ·exact⟨by decide,Nat.zero_le _,Nat.zero_le _⟩
theorem Ch {gs own:bW} {L:Nat} (h1:∀r∈gs,r.2.length≤L) (h2:∀r∈own,r.2.length≤L) (k:List UInt8):(jw (aD gs) own k).length≤L:=by
 unfold jw
 cases h:aD own k with
 |some v=>
  obtain⟨r,A,_,rfl⟩:=Fe h;exact h2 r A
 |none=>
  cases B:aD gs k with
  |some v=>
   obtain⟨r,A,_,rfl⟩:=Fe B
   simpa [B]using h1 r A
  |none=>simp
theorem Mt (gs rs:bW):oO (aD gs) rs=aD (gs++rs):=by rw[←CU,MJ,CU]
theorem SD:bZ l=true↔∀x,x<l.length→l.getD x 0=0:=by
 unfold bZ;rw[List.all_eq_true];constructor
 ·intro h x A
  rw[List.getD,Qd A]
  simpa using h _ (List.getElem_mem A)
 ·intro h x A
  obtain⟨i,hi,rfl⟩:=List.getElem_of_mem A;have:=h i hi;rw[List.getD,Qd hi]at this
  simpa using this
theorem J3 (hl:l.length=512):(((bP l 512:Nat):Int)==0)=bZ l:=by
 rw[Bool.eq_iff_iff,SD,hl];rw[←yA];simp
def Bc:aB:=⟨[],[],0,0,0,0,0,[]⟩
def ya (kind:UInt8) (link:List UInt8):List UInt8 × Int:=if kind=49 then aF 9 6 link else if kind=50 then(link,iV 9 6 link)else([],0)
def yG (kind:UInt8) (n:Int):Int:=if kind≠48∧n≠0 then 4 else if 1048576<n then 10 else 0
def j6 (h:af):aB × Int:=
 if(aF 9 6 h.name).2≠0 then(Bc,(aF 9 6 h.name).2)
 else if iU h.mode h.uid h.gid h.time=false then(Bc,4)
 else if(ya h.kind h.link).2≠0 then(Bc,(ya h.kind h.link).2)
 else if yG h.kind h.size≠0 then(Bc,yG h.kind h.size)
 else(⟨(aF 9 6 h.name).1,(ya h.kind h.link).1,h.kind,h.mode,h.uid,h.gid,h.time,[]⟩,0)
def kR (h:af) (s:RS):af:={h with name:=s.name.getD h.name,link:=s.link.getD h.link}
theorem Vi (h:af) (s:RS):jF h s=
 if(cC (aD s.bE) s.own (kR h s)).2≠0 then .error (cC (aD s.bE) s.own (kR h s)).2
 else if(j6 (cC (aD s.bE) s.own (kR h s)).1).2≠0 then .error (j6 (cC (aD s.bE) s.own (kR h s)).1).2
 else .ok ((j6 (cC (aD s.bE) s.own (kR h s)).1).1,(cC (aD s.bE) s.own (kR h s)).1.size):=by
 unfold jF kR
 dsimp only
 generalize cC (aD s.bE) s.own _=a
 by_cases h1:a.2≠0
 ·rw[if_pos h1,if_pos h1]
 ·rw[if_neg h1,if_neg h1]
  unfold j6
  by_cases H:(aF 9 6 a.1.name).2≠0
  ·simp only[if_pos H]
  ·simp only[if_neg H]
   by_cases I:iU a.1.mode a.1.uid a.1.gid a.1.time=false
   ·simp only[if_pos I];rfl
   ·simp only[if_neg I]
    unfold ya yG
    by_cases D:a.1.kind=49
    ·have E:¬a.1.kind=50:=by rw[D];decide
     have G:a.1.kind≠48:=by rw[D];decide
     by_cases B:(aF 9 6 a.1.link).2=0
     ·by_cases A:a.1.size=0
      ·simp[D,B,A]
      ·simp[D,B,A]
     ·simp[D,B]
    ·by_cases E:a.1.kind=50
     ·by_cases B:iV 9 6 a.1.link=0
      ·by_cases A:a.1.size=0
       ·simp[E,B,A]
       ·simp[E,B,A]
      ·simp[E,B]
     ·by_cases G:a.1.kind=48
      ·by_cases J:1048576<a.1.size
       ·simp[G,J]
       ·simp[G,J]
      ·by_cases A:a.1.size=0
       ·simp[D,E,G,A]
       ·simp[D,E,G,A]
def oM (k:UInt8):Bool:=k==48||k==49||k==50||k==53
def tx (m:aB):af:=⟨m.path,m.target,m.kind,m.mode,m.uid,m.gid,m.time,(m.body.length:Int),false⟩
theorem Uc (m:aB):cf m=(oM m.kind&&decide ((j6 (tx m)).2=0)&&decide ((j6 (tx m)).1.path=m.path)&&decide ((j6 (tx m)).1.target=m.target)):=by
 rw[Bool.eq_iff_iff];unfold cf oM j6 tx jN ya yG;simp only[Bool.and_eq_true,Bool.or_eq_true,decide_eq_true_eq,beq_iff_eq];obtain⟨⟨T,ce⟩,hc⟩:∃x,aF 9 6 m.path=x:=⟨_,rfl⟩
 obtain⟨⟨U,N⟩,hd⟩:∃x,aF 9 6 m.target=x:=⟨_,rfl⟩
 rw[hc,hd];have R:((m.body.length:Int)=0)↔m.body=[]:=by rw[←List.length_eq_zero_iff];omega
 have M:(1048576<(m.body.length:Int))↔1048576<m.body.length:=by omega
 have V:m.body=[]→¬1048576<m.body.length:=fun h=>by rw[h];simp
 simp only[Prod.mk.injEq,ne_eq,R,M]
 by_cases h1:ce=0
 ·by_cases J:iU m.mode m.uid m.gid m.time=false
  ·simp[h1,J,Bc]
  ·have A:iU m.mode m.uid m.gid m.time=true:=by simpa using J
   by_cases H:m.kind=48
   ·by_cases L:1048576<m.body.length
    ·simp[h1,A,H,L]
     intro _ _;omega
    ·have O:m.body.length≤1048576:=by omega
     simp[h1,A,H,L,O,@eq_comm _ [] m.target]
   ·by_cases E:m.kind=49
    ·by_cases D:N=0
     ·by_cases B:m.body=[]
      ·simp[h1,A,E,D,B]
      ·simp[h1,A,E,D,B]
     ·simp[h1,A,E,D]
    ·by_cases G:m.kind=50
     ·by_cases D:iV 9 6 m.target=0
      ·by_cases B:m.body=[]
       ·simp[h1,A,G,D,B]
       ·simp[h1,A,G,D,B]
      ·simp[h1,A,G,D]
     ·by_cases I:m.kind=53
      ·by_cases B:m.body=[]
       ·simp[h1,A,I,B,@eq_comm _ [] m.target]
       ·simp[h1,A,I,B]
      ·simp[H,E,G,I]
 ·simp[h1]
end Mem
namespace kY
open Mem
variable {a c:List UInt8}
def j1 (a b:List UInt8):Bool:=Op.bytesLess a b
theorem G9 (b:List UInt8):j1 b []=false:=by cases b<;>rfl
theorem CO (a b:UInt8) (x y:List UInt8):j1 (a::x) (b::y)=(decide (a<b)||(a==b&&j1 x y)):=rfl
theorem re (a:List UInt8):j1 a a=false:=by
 induction a with
 |nil=>rfl
 |cons b l ih=>rw[CO,ih];simp
theorem nY (a:List UInt8):∀b c,j1 a b=true→j1 b c=true→j1 a c=true:=by
 induction a with
 |nil=>intro b c h1 A
       cases c with
       |nil=>rw[G9]at A;cases A
       |cons c z=>rfl
 |cons a x ih=>
  intro b c h1 A
  cases b with
  |nil=>rw[G9]at h1;cases h1
  |cons b y=>
   cases c with
   |nil=>rw[G9]at A;cases A
   |cons c z=>
    rw[CO]at h1 A⊢;simp only[Bool.or_eq_true,decide_eq_true_eq,Bool.and_eq_true,beq_iff_eq]at h1 A⊢;rcases h1 with h1|⟨rfl,h1⟩
    ·rcases A with A|⟨rfl,A⟩
     ·exact .inl (UInt8.lt_trans h1 A)
     ·exact .inl h1
    ·rcases A with A|⟨rfl,A⟩
     ·exact .inl A
     ·exact .inr ⟨rfl,ih y z h1 A⟩
theorem OV (a:List UInt8):∀b,j1 a b=false→j1 b a=false→a=b:=by
 induction a with
 |nil=>
  intro b h1 A
  cases b with
  |nil=>rfl
  |cons b y=>exact absurd h1 (by simp[j1,Op.bytesLess])
 |cons a x ih=>
  intro b h1 A
  cases b with
  |nil=>exact absurd A (by simp[j1,Op.bytesLess])
  |cons b y=>
   rw[CO]at h1 A;simp only[Bool.or_eq_false_iff,decide_eq_false_iff_not]at h1 A
   have B:a=b:=by
    apply UInt8.le_antisymm
    ·exact UInt8.not_lt.1 A.1
    ·exact UInt8.not_lt.1 h1.1
   subst B;have D:j1 x y=false:=by simpa using h1.2
   have E:j1 y x=false:=by simpa using A.2
   rw[ih y D E]
theorem yl (h:j1 a b=true):j1 b a=false:=by
 cases A:j1 b a with
 |false=>rfl
 |true=>have:=nY a b a h A;rw[re]at this;cases this
theorem CQ (h:j1 a b=true):a≠b:=fun e=>by subst e;rw[re]at h;cases h
theorem rf (h:j1 a b=false) (ck:a≠b):j1 b a=true:=by
 cases A:j1 b a with
 |true=>rfl
 |false=>exact absurd (OV a b h A) ck
theorem G8 (h:j1 b a=false) (h2:j1 b c=true):j1 a c=true:=by
 by_cases e:a=b
 ·rw[e];exact h2
 ·exact nY a b c (rf h (fun x=>e x.symm)) h2
theorem Ha (h:j1 a b=true) (h2:j1 c b=false):j1 a c=true:=by
 by_cases e:b=c
 ·rw[←e];exact h
 ·exact nY a b c h (rf h2 (fun x=>e x.symm))
structure aC where
 path:List UInt8
 target:List UInt8
 ao:List UInt8
 kind:UInt8
 mode:Int
 uid:Int
 gid:Int
 time:Int
 body:List UInt8
deriving instance DecidableEq for aC
def iO:aC:=⟨[],[],[],0,0,0,0,0,[]⟩
def aC.mem (x:aC):aB:=⟨x.path,x.target,x.kind,x.mode,x.uid,x.gid,x.time,x.body⟩
def eqN (a b:aC):Bool:=decide (a.mem=b.mem)
theorem O0 {a b:aC} (h:a.mem=b.mem) (hl:a.ao=b.ao):a=b:=by
 cases a;cases b
 simp only[aC.mem,aB.mk.injEq]at h
 simp_all
def j8 (p:List UInt8) (m:aB) (l:List UInt8):aC:=⟨p,m.target,l,m.kind,m.mode,m.uid,m.gid,m.time,m.body⟩
def iJ:aB:=⟨[],[],0,0,0,0,0,[]⟩
abbrev St:=List (List UInt8 × Nat)
def look (S:St) (p:List UInt8):Option Nat:=(S.find? fun e=>e.1==p).map (·.2)
def oV (S:St) (p:List UInt8) (n:Nat):St:=S.filter (fun e=>!(e.1==p))++[(p,n)]
def pj (ms:List aB) (S:St) (i:Nat):Option St:=
 let m:=ms.getD i iJ
 if m.kind=49 then
  match look S m.target with
  |none=>none
  |some n=>if(ms.getD n iJ).kind=48 then some (oV S m.path n)else none
 else some (oV S m.path i)
def kJ (ms:List aB):Nat→Except Nat St
 |0=>.ok []
 |k+1=>match kJ ms k with
  |.error i=>.error i
  |.ok S=>match pj ms S k with
   |none=>.error k
   |some S'=>.ok S'
def ua (T:St) (n:Nat):List UInt8:=((T.find? fun e=>e.2==n).map (·.1)).getD []
def yp (ms:List aB) (T:St) (e:List UInt8 × Nat):aC:=
 j8 e.1 (ms.getD e.2 iJ) (if(ms.getD e.2 iJ).kind=48 then ua T e.2 else[])
def U9 (a b:List UInt8 × Nat):Bool:=!j1 b.1 a.1
def jH (S:St):St:=S.mergeSort U9
def kT (ms:List aB) (S:St):List aC:=(jH S).map (yp ms (jH S))
def kH (ms:List aB):List aC × Int × Nat:=
 match ms.findIdx? (fun m=>!cf m)with
 |some i=>([],1,i)
 |none=>match kJ ms ms.length with
  |.error i=>([],7,i)
  |.ok S=>(kT ms S,0,0)
def oB (t:List aC) (p:List UInt8):Option aC:=t.find? fun x=>x.path==p
def ag9 (o:Option aC) (x:aC):Bool:=
 match o with
 |none=>false
 |some y=>decide (y.kind=48)&&(decide (y.ao=y.path)&&(decide (y.mode=x.mode∧y.uid=x.uid∧y.gid=x.gid∧y.time=x.time)&&decide (y.body=x.body)))
def Bb (t:List aC) (x:aC):Bool:=
 if x.kind=48 then ag9 (oB t x.ao) x else decide (x.ao=[])
def tB (x:aC):Bool:=decide (x.kind≠49)&&cf x.mem
def rZ (t:List aC) (i:Nat):Bool:=
 let x:=t.getD i iO
 (tB x&&(decide (i=0)||j1 (t.getD (i - 1) iO).path x.path))&&Bb (t.take (i+1)) x
def ja (t:List aC):Bool:=decide (t.length≤4096)&&(List.range t.length).all (rZ t)
def nz (t:List aC):Prop:=t.Pairwise fun a b=>j1 a.path b.path=true
end kY
namespace Mem
open Go.Lib Fp Hp Path Rec Attr
variable {m:aB}
theorem RQ (h:kS m):∃H,nK (bJ m)=some H∧H.length=512∧
 ((bq m=[]∧rq m=H++sK m.body)∨(bq m≠[]∧∃X,nK (Hi (bc (bq m)).length)=some X∧X.length=512∧rq m=X++sK (bc (bq m))++(H++sK m.body))):=by
 obtain⟨H,h1,D,_⟩:=E0 h;refine⟨H,h1,D,?_⟩
 by_cases A:bq m=[]
 ·refine .inl ⟨A,?_⟩
  rw[rq,A,if_pos (show bc []=[]from rfl),h1];rfl
 ·obtain⟨X,B,E,_⟩:=J1 (sH h)
  refine .inr ⟨A,X,B,E,?_⟩;rw[rq,if_neg (fun e=>A (Fg (qI h) e)),h1,B];rfl
def M5 (m:aB):Bool:=
 decide (m.path.length≤100)&&(decide (m.target.length≤100)&&(decide (m.uid≤2097151)&&(decide (m.gid≤2097151)&&(decide (m.time≤8589934591)&&(sx m.path&&sx m.target)))))
theorem M6 (h:M5 m=true):bq m=[]:=by
 unfold M5 at h;simp only[Bool.and_eq_true,decide_eq_true_eq]at h;obtain⟨h1,E,I,J,L,G,H⟩:=h;have B:rb m=false:=by unfold rb;rw[xb h1,G];rfl
 have D:pP m=false:=by
  unfold pP;rw[H]
  simpa using E
 unfold bq;rw[B,D];have A:¬2097151<m.uid:=by omega
 have a2:¬2097151<m.gid:=by omega
 have a3:¬8589934591<m.time:=by omega
 simp[A,a2,a3]
theorem M8 (h:kS m) (hp:M5 m=true):(rq m).length=512+aw m.body.length:=by
 have B:=M6 hp;obtain⟨H,_,A,_,_⟩:=yC h
 have e:rq m=(nK (bJ m)).getD []++sK m.body:=by
  unfold rq;rw[B,if_pos (show bc []=[]from rfl),List.nil_append]
 obtain⟨H,h1,A,_,_⟩:=yC h;rw[e,h1,Qf,jz];show H.length+_=_;rw[A]
theorem Sj {s s':RS} {k:Nat} (h:aG l s=.next k s') (hg:s.out.length≤4096):s'.out.length≤4096:=by
 unfold aG at h;split at h
 ·cases h
 ·split at h
  ·split at h
   ·cases h
   ·split at h
    ·cases h
    ·split at h<;>cases h
  ·split at h
   ·cases h
   ·split at h
    ·unfold ji at h
     split at h
     ·cases h
     ·split at h
      ·cases h
      ·split at h
       ·cases h
       ·split at h
        ·cases h;exact hg
        ·split at h
         ·cases h;exact hg
         ·split at h
          ·cases h
          ·split at h<;>(cases h;exact hg)
    ·unfold oo at h
     split at h
     ·cases h
     ·split at h
      ·cases h
      ·split at h
       ·cases h
       ·split at h
        ·cases h
        ·cases h
         simp only[Qf,List.length_singleton];omega
theorem RT (N:Nat):∀(l:List UInt8) (at_:Nat) (s:RS),l.length≤N→s.out.length≤4096→(bY l at_ s).1.length≤4096:=by
 induction N with
 |zero=>
  intro l at_ s hl A;rw[ke (zE (by omega) s)];simp
 |succ N ih=>
  intro l at_ s hl A
  cases hs:aG l s with
  |fault f=>rw[ke hs];simp
  |done=>rw[nL hs];exact A
  |next k E=>
   rw[kL hs];obtain⟨B,D⟩:=qK hs;exact ih _ _ _ (by rw[Qe];omega) (Sj hs A)
theorem wF (b:List UInt8):(cu b).1.length≤4096:=RT b.length b 0 nU (Qk _) (by show(0:Nat)≤4096;omega)
end Mem
namespace Rec
open Go.ChangeShapes Go.WideShapes Go.ChangeAt Go.RowKit Go.Shelf Base cb iK Path Go.Lib
variable {w w':World}
def Need (w:World):Prop:=Path.Tabs w∧(∃tp p,w.var? Tryz.prog "strconv.ErrSyntax"=some #[.iface tp p])∧Lib.TabIs Tryz.prog w "internal/strconv.uint64pow10" .u64 Lib.pow10Tab
theorem F5 {P:Program} {n:String} {cs:Array Value} (h:w.var? P n=some cs) (hb:Below w.heap.size w w'):w'.var? P n=some cs:=by
 unfold World.var? at h⊢
 cases A:P.globalNamed n with
 |none=>simp[A]at h
 |some g=>
  simp only[A,Option.bind_some]at h⊢
  have B:g<w.heap.size:=by
   rcases Nat.lt_or_ge g w.heap.size with h'|h'
   ·exact h'
   ·simp[Array.getElem?_eq_none h']at h
  rw[hb.block g B];exact h
theorem Need.below (h:Need w) (hb:Below w.heap.size w w'):Need w':=
 ⟨h.1.below hb,by obtain⟨B,p,A⟩:=h.2.1;exact⟨B,p,F5 A hb⟩,F5 h.2.2 hb⟩
theorem Need.Hy (h:Need w):Path.Tabs w:=h.1
end Rec
namespace Wr
open Go.ChangeShapes Go.WideShapes Go.ChangeAt Go.RowKit Base cb iK Mem Go.Lib
theorem ay1 (s:ByteArray) (k:Nat) (hk:k<s.size):s[k]=s.data.toList.getD k 0:=by
 have h:k<s.data.toList.length:=by simpa using hk
 rw[List.getD,Qd h];rfl
theorem RM (s:ByteArray) (w:World) (hm:s.size≤140737488351232):
 Calls Tryz.prog 122 #[.string s] w fun e w'=>e=.returned (.bool (sx s.data.toList))∧Below w.heap.size w w':=by
 have N:Hid (s.data.toList.length=s.size):=Qh (by simp);have J:Hid (∀pos,Below w.heap.size w (w.iter s pos)):=Qh (fun pos=>(Below.refl _ _).alloc (Qk _) _)
 go_enter Tryz.func122,Tryz.ntmps122
 go_wp2
 go_loopw [2] (fun r wr=>r=.bool false∧∃(pos:Nat),wr=w.iter s pos∧pos≤s.size∧Hid (∀x∈s.data.toList.take pos,x.toNat≤127)) (fun _ wr=>s.size - wr.iterPos w.heap.size)
 case atStart=>exact⟨rfl,0,rfl,Nat.zero_le _,Qh (by simp)⟩
 case round=>
  obtain⟨rfl,pos,rfl,U,M⟩:=hrel
  by_cases B:pos<s.size
  ·have D:pos<s.data.toList.length:=by rw[N.out];exact B
   have L:Hid ((s[pos]).toNat=(s.data.toList.getD pos 0).toNat):=Qh (by rw[ay1 s pos B])
   have R:Hid (s.data.toList.take (pos+1)=s.data.toList.take pos++[s.data.toList.getD pos 0]):=Qh (by
    rw[List.take_succ_eq_append_getElem D,List.getD,Qd D];rfl)
   have O:Hid (s.data.toList.getD pos 0∈s.data.toList):=Qh (by
    rw[List.getD,Qd D];exact List.getElem_mem D)
   by_cases I:(s[pos]).toNat<128
   ·have G:=fun ty=>run_next_ascii (P:=Tryz.prog) w s pos ty B I
    have H:¬(127:Int)<((s[pos]).toNat:Int):=by omega
    go_wp2;go_roundw
    case rel=>exact⟨rfl,pos+1,rfl,by omega,Qh (fun y hy=>by
     rw[R.out,List.mem_append]at hy;rcases hy with hy|hy
     ·exact M.out y hy
     ·simp only[List.mem_singleton]at hy
      subst hy;have T:=L.out
      omega)⟩
    case measure=>simp;omega
   ·have G:=fun ty=>run_next_any (P:=Tryz.prog) w s pos ty B
    have hd:=decode_high s pos B (by omega);obtain⟨r,k,A⟩:∃r k,Utf8.decode s pos=(r,k):=⟨_,_,rfl⟩
    rw[A]at hd;simp only[A]at G;obtain⟨V,_⟩:=hd;have H:(127:Int)<(r:Int):=by omega
    have E:Hid (sx s.data.toList=false):=Qh (by
     unfold sx;rw[Bool.eq_false_iff];intro h;have:=of_decide_eq_true (List.all_eq_true.1 h _ O.out);have T:=L.out
     omega)
    clear A;go_wp2;go_ret;rw[E.out];exact⟨rfl,J.out _⟩
  ·have G:=fun ty=>run_next_end (P:=Tryz.prog) w s pos ty B
   have E:Hid (sx s.data.toList=true):=Qh (by
    unfold sx;rw[List.all_eq_true];intro x I
    exact decide_eq_true (M.out x (by rw[List.take_of_length_le (by rw[N.out];omega)];exact I)))
   go_wp2;go_ret;rw[E.out];exact⟨rfl,J.out _⟩
end Wr
namespace Rec
open Go.ChangeShapes Go.WideShapes Go.ChangeAt Go.RowKit Go.Shelf Base cb iK Path Go.Lib
theorem Lt (w:World) (k:Nat) (os:Array Obj):Below w.heap.size w (Sort.grow (w.drewN k) os):=
 ⟨rfl,rfl,rfl,by rw[Sort.size_grow];show w.heap.size≤w.heap.size+os.size;omega,fun j A=>by
  show(w.heap++os)[j]? =w.heap[j]?
  rw[Array.getElem?_append_left A]⟩
theorem Ju (m:Nat) (w:World) (hm:m≤9223372036854775807) (hN:Need w):
 Calls Tryz.prog 124 #[.int .i64 (m:Int)] w fun e w'=>e=.returned (.string (str (aM m)))∧Below w.heap.size w w':=by
 refine(Any.strconv_Itoa Tryz.U6 (m:Int) (by omega) (by omega) w hN.2.2).mono ?_;rintro e w' ⟨rfl,k,os,rfl⟩;rw[Q6];exact⟨rfl,Lt w k os⟩
theorem Hl (m:Nat) (w:World) (h0:0<m) (hm:m≤1000000000000000) (hN:Need w):
 Calls Tryz.prog 156 #[.int .i64 (m:Int)] w fun e w'=>e=.returned (.string (str (aM (pO m))))∧Below w.heap.size w w':=by
 have J:=Qh (JE m h0);have l:=Qh hN;have Y:∀n,n<1000000000000000000→(aM n).length≤18:=fun n h=>uA n 18 (by omega) h
 have f:=Qh Y;have U:=Qh (oA m);have q:(m:Int)≤1000000000000000:=by omega
 have T:=Qh hm;clear hN Y hm h0
 go_enter Tryz.func156,Tryz.ntmps156
 go_wp2_with fail
 go_loopw [3] (fun s wr=>∃(S:ByteArray),s=.string S∧S.size≤18∧Hid (S=str []∨S=str (aM m)∨(S=str (aM (m+(aM m).length))∧(aM (m+(aM m).length)).length≠(aM m).length))∧Hid (Below w.heap.size w wr)) (fun s _=>match s with|.string b=>(if b.size=0 then 2 else if b.size=(aM m).length then 1 else 0)|_=>0)
 case atStart=>exact⟨str [],rfl,by rw[ax];simp,Qh (.inl rfl),Qh (Below.refl _ _)⟩
 case round=>
  obtain⟨S,rfl,M,Z,G⟩:=hrel;obtain⟨d,hd⟩:∃d,S.size=d:=⟨_,rfl⟩
  have o:(d:Int)≤18:=by omega
  obtain⟨X,I⟩:∃X,X=str (aM (m+d)):=⟨_,rfl⟩
  have L:=Qh I
  have R:Hid (Calls Tryz.prog 124 #[.int .i64 ((m:Int)+(d:Int))] wr fun e w'=>e=.returned (.string X)∧Below wr.heap.size wr w'):=Qh (by
   have:=Ju (m+d) wr (by have:=T.out;omega) (l.out.below G.out);rw[I]
   rwa [show((m+d:Nat):Int)=(m:Int)+(d:Int) by omega]at this)
  have B:Hid (X.size=(aM (m+d)).length):=Qh (by rw[I,ax]);have N:Hid (X.size≤18):=Qh (by rw[B.out];exact f.out _ (by have:=T.out;omega));have W:=Qh hd;clear I M
  by_cases H:X.size=d
  ·have p:((X.size:Int)==(d:Int))=true:=by rw[H];simp
   have g:Hid (X=str (aM (pO m))):=Qh (by
    have D:=B.out;have r:=U.out;have A:=W.out;rw[L.out]
    congr 2
    rcases Z.out with e|e|⟨e,ne⟩
    ·rw[e,ax]at A
     obtain rfl:d=0:=by simpa using A.symm
     rw[Nat.add_zero]at D;omega
    ·rw[e,ax]at A
     rw[H,←A]at D;rcases J.out with⟨l1,l2⟩|⟨l1,l2,l3⟩
     ·rw[l1,←A]
     ·exact absurd D.symm l2
    ·rw[e,ax]at A
     rcases J.out with⟨l1,l2⟩|⟨l1,l2,l3⟩
     ·exact absurd l2 ne
     ·rw[l1,←A])
   clear H;go_wp2_with fail;refine R.out.mono ?_;rintro e t ⟨rfl,E⟩;have O:=Qh (G.out.trans (E.mono G.out.size));clear E;go_wp2;go_ret;exact⟨by rw[g.out];rfl,O.out⟩
  ·have p:((X.size:Int)==(d:Int))=false:=by rw[beq_eq_false_iff_ne];omega
   have V:=Qh H
   have c:Hid (S=str []∧X=str (aM m)∨S=str (aM m)∧(X=str (aM (m+(aM m).length))∧(aM (m+(aM m).length)).length≠(aM m).length)):=Qh (by
    have D:=B.out;have A:=W.out;rcases Z.out with e|e|⟨e,ne⟩
    ·rw[e,ax]at A
     obtain rfl:d=0:=by simpa using A.symm
     exact .inl ⟨e,by rw[L.out,Nat.add_zero]⟩
    ·rw[e,ax]at A
     refine .inr ⟨e,by rw[L.out,A],?_⟩;rw[A,←D];exact V.out
    ·rw[e,ax]at A
     rcases J.out with⟨l1,l2⟩|⟨l1,l2,l3⟩
     ·exact absurd l2 ne
     ·rw[A]at l3
      exact absurd (D.trans l3) V.out)
   clear H;go_wp2_with fail;refine R.out.mono ?_;rintro e t ⟨rfl,E⟩;have O:=Qh (G.out.trans (E.mono G.out.size));clear E;go_wp2_with fail;go_roundw
   case rel=>exact⟨X,rfl,N.out,Qh (by
    rcases c.out with⟨_,e⟩|⟨_,e⟩
    ·exact .inr (.inl e)
    ·exact .inr (.inr e)),O⟩
   case measure=>
    have r:=U.out;rcases c.out with⟨e1,e2⟩|⟨e1,e2,ne⟩
    ·rw[e1,e2]
     simp only[ax,List.length_nil,if_true];rw[if_neg (by omega)];omega
    ·have u:=uB (show m≤m+(aM m).length by omega)
     rw[e1,e2];simp only[ax,if_true];rw[if_neg (by omega),if_neg ne,if_neg (by omega)];omega
end Rec
namespace Rec
open Go.ChangeShapes Go.WideShapes Go.ChangeAt Go.RowKit Go.Shelf Base cb iK Path ur Go.Lib
theorem RN (l:List UInt8) (w:World) (h1:1≤l.length) (h2:l.length≤7) (hN:Need w):
 Calls Tryz.prog 207 #[.string (str l),.int .i64 10,.int .i64 64] w fun e w'=>
  ∃(u:Nat) (x:Value),e=.returned (.tuple #[.int .u64 (u:Int),x])∧Below w.heap.size w w'∧
   ((l.all aN=true∧u=ki l∧x=.nilIface)∨(l.all aN=false∧u=0∧∃t y,x=.iface t y)):=by
 have A:=RF l h1 (by omega);have hs:(str l).size=l.length:=ax l
 cases hd:l.all aN with
 |true=>
  rw[hd,if_pos rfl]at A;refine(Any.strconv_ParseUint_10_at64_ok Tryz.U7 (str l) (by omega) (ki l) (by rw[aS];exact A) w).mono ?_;rintro e w' ⟨rfl,hw⟩;refine⟨ki l,.nilIface,rfl,?_,.inl ⟨rfl,rfl,rfl⟩⟩;rcases hw with rfl|rfl
  ·exact Below.refl _ _
  ·exact FV w _ _
 |false=>
  rw[hd,if_neg (by simp)]at A;obtain⟨E,p,D⟩:=hN.2.1;refine(Any.strconv_ParseUint_10_at64_syntax_var Tryz.U7 (str l) (by omega) (by rw[aS];exact A) E p w D).mono ?_;rintro e w' ⟨N,rfl,_,_,B⟩;exact⟨0,_,rfl,B,.inr ⟨rfl,rfl,_,_,rfl⟩⟩
theorem Dj (p:Option Addr) (n c:Nat) (bs:List UInt8) (w:World) (hn:bs.length=n) (hm:n≤1000000000000) (h:iC w p n bs) (hN:Need w):
 Calls Tryz.prog 180 #[.slice p n c] w fun e w'=>e=.returned (lq (uQ bs))∧Below w.heap.size w w':=by
 have mixed:Tryz.prog.follows .mixedOrders=true:=by kernel_rfl
 by_cases U:1≤n∧n≤7
 ·have hi:SZ (n:Int) 1 7=true:=oL (by omega) (by omega)
  obtain⟨b,o,rfl,hc⟩:=h (by omega);have E:=hc 0 (by omega);rw[Nat.add_zero]at E;obtain⟨C,D⟩:∃C:Nat,(bs.getD 0 0).toNat=C:=⟨_,rfl⟩
  rw[D]at E;have T:(0:Int)<(n:Int):=by omega
  by_cases B:bs.getD 0 0=48
  ·have e:uQ bs=none:=by unfold uQ;rw[if_pos (.inr (.inr B))]
   rw[e];have R:((C:Int)==48)=true:=by rw[←D,B];rfl
   clear h hN hc B D e hn
   go_enter Tryz.func180,Tryz.ntmps180
   go_wp2_with (go_at_call 152;refine(tA _ _ _ _).mono ?_;rw[hi];rintro e N ⟨rfl,rfl⟩)
   go_ret2;exact⟨rfl,Below.refl _ _⟩
  ·have R:((C:Int)==48)=false:=by
    rw[beq_eq_false_iff_ne];intro e;refine B (UInt8.toNat_inj.1 ?_);rw[D];show C=48;omega
   have O:=Qh (RN bs w (by omega) (by omega) hN);have cs:=iR h hn 26 5 9 Tryz.underlying26 Tryz.underlying5 Tryz.underlying9 c
   have M:Hid (uQ bs=if bs.all aN then some (ki bs)else none):=Qh (by
    unfold uQ
    rw[if_neg (by
     rintro(e|e|e)
     ·omega
     ·omega
     ·exact B e)])
   have A:Hid (bs.all aN=true→ki bs<10000000):=Qh (fun hd=>by
    have V:=Ie bs (List.all_eq_true.1 hd);have W:10 ^ bs.length≤10 ^ 7:=Nat.pow_le_pow_right (by omega) (by omega);have X:(10:Nat) ^ 7=10000000:=by decide
    omega)
   clear h hN hc B D hn
   go_enter Tryz.func180,Tryz.ntmps180
   go_wp2_with (go_at_call 152;refine(tA _ _ _ _).mono ?_;rw[hi];rintro e N ⟨rfl,rfl⟩)
   rw[show(⟨bs.toArray⟩:ByteArray)=str bs from rfl]
   go_at_call 207
   refine O.out.mono ?_;rintro e Z ⟨u,x,rfl,I,(⟨hd,rfl,rfl⟩|⟨hd,rfl,t,y,rfl⟩)⟩
   ·have hu:=A.out hd
    have H:Hid (uQ bs=some (ki bs)):=Qh (by rw[M.out,hd];rfl);obtain⟨u,G⟩:∃u,ki bs=u:=⟨_,rfl⟩
    rw[G]at hu H⊢;have Y:IntKind.i64.wrap (u:Int)=(u:Int):=by rw[IntKind.wrap_i64];omega
    have J:=Qh I;clear I hd G cs A;go_wp2_with fail
    go_quiet (fail)
    have L:=Qh (below_drewN J.out nq);go_wp2;go_ret2;rw[H.out];exact⟨rfl,L.out⟩
   ·have H:Hid (uQ bs=none):=Qh (by rw[M.out,hd];rfl)
    have J:=Qh I;clear I hd cs A;go_wp2_with fail
    go_quiet (fail)
    have L:=Qh (below_drewN J.out nq);go_wp2;go_ret2;rw[H.out];exact⟨rfl,L.out⟩
 ·have hi:SZ (n:Int) 1 7=false:=qE (by omega)
  have e:uQ bs=none:=by unfold uQ;rw[if_pos (by omega)]
  rw[e];clear h hN e hn U
  go_enter Tryz.func180,Tryz.ntmps180
  go_wp2_with (go_at_call 152;refine(tA _ _ _ _).mono ?_;rw[hi];rintro e N ⟨rfl,rfl⟩)
  go_ret2;exact⟨rfl,Below.refl _ _⟩
theorem Rr (w:World) (t:TypeId) (x:Int):(w.alloc (.cells #[.int .u8 x] t (1,2))).cell? ⟨w.heap.size,0,none⟩=some (.int .u8 x):=by
 rw[World.cell?_alloc_mark];rfl
theorem EF (b o n c b2:Nat) (bs:List UInt8) (w:World) (hn:bs.length=n) (hc:n≤c) (hm:n≤1000000000000) (h:iC w (some ⟨b,o,none⟩) n bs) (h2:w.cell? ⟨b2,0,none⟩=some (.int .u8 32)):
 Calls Tryz.prog 109 #[.slice (some ⟨b,o,none⟩) n c,.slice (some ⟨b2,0,none⟩) 1 1] w fun e w'=>e=.returned (Lib.cutV (some ⟨b,o,none⟩) n c 1 (Lib.indexByte bs 32))∧∃q,w'=w.drewN q:=by
 have A:bytesOf (nums bs)=bs:=qk bs
 have B:=Any.bytes_Index_one Tryz.rM.index b o n c b2 0 1 (nums bs) 32 w (by rw[od,hn]) (fun i hi=>by
  obtain⟨G,I,he,hcell⟩:=h (by omega)
  cases he
  rw[hcell i hi]
  simp[nums,List.getD,Qd (show i<bs.length by omega)]) h2
 rw[A,show(32:Int).toNat.toUInt8=32 from rfl]at B
 have D:0≤Lib.indexByte bs 32→Lib.indexByte bs 32+(1:Nat)≤n:=fun H=>by
  obtain⟨k,hk⟩:∃k:Nat,Lib.indexByte bs 32=k:=⟨(Lib.indexByte bs 32).toNat,by omega⟩
  have:=(Lib.indexByte_some hk).1;have E:=(List.getElem?_eq_some_iff.1 this).1;omega
 exact Any.bytes_Cut_of Tryz.rM (some ⟨b,o,none⟩) (some ⟨b2,0,none⟩) n c 1 1 (Lib.indexByte bs 32) w hc (Lib.indexByte_ge _ _) D (by omega) (B.mono fun e w' he=>⟨he.1,0,he.2⟩)
theorem XK (b o n c b2:Nat) (bs:List UInt8) (w:World) (hn:bs.length=n) (hc:n≤c) (hm:n≤1000000000000) (h:iC w (some ⟨b,o,none⟩) n bs) (h2:w.cell? ⟨b2,0,none⟩=some (.int .u8 32)) (hi:Lib.indexByte bs 32<0):
 Calls Tryz.prog 109 #[.slice (some ⟨b,o,none⟩) n c,.slice (some ⟨b2,0,none⟩) 1 1] w fun e w'=>e=.returned (.tuple #[.slice (some ⟨b,o,none⟩) n c,.slice none 0 0,.bool false])∧∃q,w'=w.drewN q:=by
 have:=EF b o n c b2 bs w hn hc hm h h2;unfold Lib.cutV at this
 rwa [if_neg (by omega)]at this
theorem Bo (b o n c b2 i r:Nat) (bs:List UInt8) (w:World) (hn:bs.length=n) (hc:n≤c) (hm:n≤1000000000000) (h:iC w (some ⟨b,o,none⟩) n bs) (h2:w.cell? ⟨b2,0,none⟩=some (.int .u8 32)) (hi:Lib.indexByte bs 32=(i:Int)) (hr:n=i+1+r):
 Calls Tryz.prog 109 #[.slice (some ⟨b,o,none⟩) n c,.slice (some ⟨b2,0,none⟩) 1 1] w fun e w'=>∃q2 c2,e=.returned (.tuple #[.slice (some ⟨b,o,none⟩) i c,.slice q2 r c2,.bool true])∧r≤c2∧iC w' q2 r (bs.drop (i+1))∧∃q,w'=w.drewN q:=by
 refine(EF b o n c b2 bs w hn hc hm h h2).mono ?_;rintro e w' ⟨rfl,q,rfl⟩;unfold Lib.cutV;rw[if_pos (by omega),hi,Int.toNat_natCast];have hd:=h.drop (k:=i+1) (c:=c) (by omega) hc hn;rw[show n - (i+1)=r by omega]at hd;refine⟨_,c - (i+1),?_,by omega,hd.below (below_drewN (Below.refl _ _) q),q,rfl⟩;unfold Lib.fromV;rw[show n - (i+1)=r by omega]
def xa (r:Option (List UInt8 × Nat)):Value:=match r with
 |some (t,m)=>.tuple #[.string (str t),.int .i64 (m:Int),.bool true]
 |none=>.tuple #[.string ⟨#[]⟩,.int .i64 0,.bool false]
theorem Nc (b o n c:Nat) (bs:List UInt8) (w:World) (hn:bs.length=n) (hc:n≤c) (hm:n≤1000000000000) (h:iC w (some ⟨b,o,none⟩) n bs) (hN:Need w):
 Calls Tryz.prog 140 #[.slice (some ⟨b,o,none⟩) n c] w fun e w'=>e=.returned (xa (xT bs))∧Below w.heap.size w w':=by
 have C5:=Lib.run_convert_bytes_const (P:=Tryz.prog) w 26 5 #[.int .u8 32] 1 1 Tryz.underlying26 Tryz.underlying5;obtain⟨wm,L⟩:∃wm,w.alloc (.cells #[.int .u8 32] 5 (1,2))=wm:=⟨_,rfl⟩
 have ZC:Below w.heap.size w wm:=by rw[←L];exact(Below.refl _ _).alloc (Qk _) _
 have G:=Qh ZC;have X:=Qh (by rw[←L];exact Rr w 5 32:wm.cell? ⟨w.heap.size,0,none⟩=some (.int .u8 32));have H:=Qh h;have t:=Qh hN;have N:=Qh hn;rw[show((#[.int .u8 32]:Array Value).size,(#[.int .u8 32]:Array Value).size+1)=(1,2)from rfl,L]at C5;clear ZC h hN L
 by_cases d:Lib.indexByte bs 32<0
 ·have e:xT bs=none:=by unfold xT;rw[if_pos d]
  rw[e];have J:=Qh d;clear e d
  go_enter Tryz.func140,Tryz.ntmps140
  go_wp2_with fail
  refine(XK b o n c w.heap.size bs wm N.out hc hm (H.out.below G.out) X.out J.out).mono ?_;rintro e z ⟨rfl,q,rfl⟩;have A:=Qh (below_drewN G.out q);go_wp2
  go_ret3
  exact⟨rfl,A.out⟩
 ·obtain⟨i,hi⟩:∃i:Nat,Lib.indexByte bs 32=i:=⟨(Lib.indexByte bs 32).toNat,by omega⟩
  obtain⟨QV,_,_⟩:=Cb bs i hi;obtain⟨r,g⟩:∃r,n=i+1+r:=⟨n - (i+1),by omega⟩
  have l:(bs.take i).length=i:=by rw[Qg];omega
  have I:Hid (xT bs=match uQ (bs.take i)with
   |none=>none
   |some m=>if m<i+4∨bs.length<m∨bs.getD (m - 1) 0≠10 then none else some ((bs.drop (i+1)).take (m - 1 - (i+1)),m)):=Qh (by
    unfold xT;rw[if_neg d,hi,Int.toNat_natCast]
    all_goals (cases uQ (bs.take i)<;>rfl))
  have J:=Qh (And.intro hi g);have Y:=Qh l;have aJ6:(i:Int)≤1000000000000:=by omega
  have aK9:(r:Int)≤1000000000000:=by omega
  have B:Hid (i≤1000000000000∧i≤n):=Qh (by omega);clear hi d l QV
  cases M:uQ (bs.take i)with
  |none=>
   rw[M]at I
   have Z:Hid (∀w,iC w (some ⟨b,o,none⟩) i (bs.take i)→Need w→Calls Tryz.prog 180 #[.slice (some ⟨b,o,none⟩) i c] w fun e w'=>e=.returned (.tuple #[.int .i64 0,.bool false])∧Below w.heap.size w w'):=Qh (fun w h1 h2=>by
    have:=Dj (some ⟨b,o,none⟩) i c (bs.take i) w Y.out B.out.1 h1 h2;rw[M]at this
    exact this)
   rw[I.out];clear M I g
   go_enter Tryz.func140,Tryz.ntmps140
   go_wp2_with fail
   refine(Bo b o n c w.heap.size i r bs wm N.out hc hm (H.out.below G.out) X.out J.out.1 J.out.2).mono ?_;rintro e z ⟨q2,c2,rfl,_,_,q,rfl⟩;have A:=Qh (below_drewN G.out q);go_wp2_with fail;refine(Z.out _ ((H.out.take B.out.2).below A.out) (t.out.below A.out)).mono ?_;rintro e w2 ⟨rfl,E⟩;have O:=Qh (A.out.trans (E.mono A.out.size));clear E;go_wp2
   go_ret3
   exact⟨rfl,O.out⟩
  |some m=>
   have Bv:=(Fl M).2.2.2.2.2;rw[M]at I
   have Z:Hid (∀w,iC w (some ⟨b,o,none⟩) i (bs.take i)→Need w→Calls Tryz.prog 180 #[.slice (some ⟨b,o,none⟩) i c] w fun e w'=>e=.returned (.tuple #[.int .i64 (m:Int),.bool true])∧Below w.heap.size w w'):=Qh (fun w h1 h2=>by
    have:=Dj (some ⟨b,o,none⟩) i c (bs.take i) w Y.out B.out.1 h1 h2;rw[M]at this
    exact this)
   have aK4:(m:Int)<10000000:=by omega
   by_cases T:m<i+4∨n<m
   ·have U:SZ ((m:Int) - (i:Int) - 1) 3 (r:Int)=false:=qE (by omega)
    have W:Hid (xT bs=none):=Qh (by
     rw[I.out];simp only
     rw[if_pos (by rw[N.out];rcases T with h|h;exact .inl h;exact .inr (.inl h))])
    rw[W.out];have u:=Qh U;clear M I g Bv U T
    go_enter Tryz.func140,Tryz.ntmps140
    go_wp2_with fail
    refine(Bo b o n c w.heap.size i r bs wm N.out hc hm (H.out.below G.out) X.out J.out.1 J.out.2).mono ?_;rintro e z ⟨q2,c2,rfl,_,_,q,rfl⟩;have A:=Qh (below_drewN G.out q);go_wp2_with fail;refine(Z.out _ ((H.out.take B.out.2).below A.out) (t.out.below A.out)).mono ?_;rintro e w2 ⟨rfl,E⟩;have O:=Qh (A.out.trans (E.mono A.out.size));clear E;go_wp2_with fail;refine(tA _ _ _ _).mono ?_;rw[u.out];rintro e w3 ⟨rfl,rfl⟩;go_wp2
    go_ret3
    exact⟨rfl,O.out⟩
   ·obtain⟨v,hv⟩:∃v,m=i+2+v:=⟨m - (i+2),by omega⟩
    have U:SZ ((v:Int)+1) 3 (r:Int)=true:=oL (by omega) (by omega);have u:=Qh U;have aK:(m:Int) - (i:Int) - 1=(v:Int)+1:=by omega
    have hvr:(v:Int)<(r:Int):=by omega
    have D:Hid (v<r∧v≤r):=Qh (by omega);obtain⟨C,f⟩:∃C:Nat,(bs.getD (m - 1) 0).toNat=C:=⟨_,rfl⟩
    have HC:Hid (((bs.drop (i+1)).getD v 0).toNat=C):=Qh (by
     rw[←f,show m - 1=i+1+v by omega]
     simp[List.getD])
    have HDL:Hid ((bs.drop (i+1)).length=r):=Qh (by rw[Qe];omega)
    by_cases R:bs.getD (m - 1) 0=10
    ·have hb:((C:Int) != 10)=false:=by rw[←f,R];rfl
     have W:Hid (xT bs=some ((bs.drop (i+1)).take v,m)):=Qh (by
      rw[I.out];simp only
      rw[if_neg (by
       rw[N.out];rintro(h|h|h)
       ·exact T (.inl h)
       ·exact T (.inr h)
       ·exact h R),show m - 1 - (i+1)=v by omega])
     rw[W.out];clear M I g Bv U T f R hv
     go_enter Tryz.func140,Tryz.ntmps140
     go_wp2_with fail
     refine(Bo b o n c w.heap.size i r bs wm N.out hc hm (H.out.below G.out) X.out J.out.1 J.out.2).mono ?_;rintro e z ⟨q2,c2,rfl,oU,p,q,rfl⟩;have A:=Qh (below_drewN G.out q);have BO:=Qh p;clear p;go_wp2_with fail;refine(Z.out _ ((H.out.take B.out.2).below A.out) (t.out.below A.out)).mono ?_;rintro e w2 ⟨rfl,E⟩;have O:=Qh (A.out.trans (E.mono A.out.size));have y:=Qh (BO.out.below E);clear E;obtain⟨b3,o3,rfl,V⟩:=y.out (by have:=D.out;omega);have g0:=V v D.out.1;rw[HC.out]at g0;have cs:=iR (y.out.take D.out.2) (by rw[Qg,HDL.out];have:=D.out;omega) 26 5 9 Tryz.underlying26 Tryz.underlying5 Tryz.underlying9 c2;have HE3:Hid ((⟨((bs.drop (i+1)).take v).toArray⟩:ByteArray)=str ((bs.drop (i+1)).take v)):=Qh rfl;clear V;go_wp2_with fail;refine(tA _ _ _ _).mono ?_;rw[u.out];rintro e w3 ⟨rfl,rfl⟩;go_wp2
     go_ret3
     exact⟨rfl,O.out⟩
    ·have hb:((C:Int) != 10)=true:=by
      have:¬C=10:=fun e=>R (UInt8.toNat_inj.1 (by rw[f,e];rfl))
      simp;omega
     have W:Hid (xT bs=none):=Qh (by
      rw[I.out];simp only
      rw[if_pos (.inr (.inr R))])
     rw[W.out];clear M I g Bv U T f R hv
     go_enter Tryz.func140,Tryz.ntmps140
     go_wp2_with fail
     refine(Bo b o n c w.heap.size i r bs wm N.out hc hm (H.out.below G.out) X.out J.out.1 J.out.2).mono ?_;rintro e z ⟨q2,c2,rfl,oU,p,q,rfl⟩;have A:=Qh (below_drewN G.out q);have BO:=Qh p;clear p;go_wp2_with fail;refine(Z.out _ ((H.out.take B.out.2).below A.out) (t.out.below A.out)).mono ?_;rintro e w2 ⟨rfl,E⟩;have O:=Qh (A.out.trans (E.mono A.out.size));have y:=Qh (BO.out.below E);clear E;obtain⟨b3,o3,rfl,V⟩:=y.out (by have:=D.out;omega);have g0:=V v D.out.1;rw[HC.out]at g0;clear V;go_wp2_with fail;refine(tA _ _ _ _).mono ?_;rw[u.out];rintro e w3 ⟨rfl,rfl⟩;go_wp2
     go_ret3
     exact⟨rfl,O.out⟩
end Rec
namespace Mem
open Go.ChangeShapes Go.WideShapes Go.ChangeAt Go.RowKit Hp Head Path Rec Attr Go.Lib
variable {m:aB}
theorem Sp (h:kS m):m.target.length≤200:=by
 rcases h.kind with k|k|k|k
 ·rw[h.none (.inl k)];simp
 ·exact((xR 9 6 (by decide) (by decide) _ _).1 (h.ae1 k)).2.2.2.2.2
 ·have:=h.sym k
  unfold iV at this;split at this
  ·cases this
  ·split at this
   ·cases this
   ·omega
 ·rw[h.none (.inr k)];simp
theorem wf_i64 (h0:0≤n) (h1:n≤9223372036854775807):(Lit.int .i64 n).wf=true:=by
 have A:IntKind.i64.min=-9223372036854775808:=rfl;have B:IntKind.i64.max=9223372036854775807:=rfl;simp only[Lit.wf,Bool.and_eq_true,decide_eq_true_eq];omega
theorem Uo (h:kS m):∀i,(Lit.int .i64 (sc (bJ m) i)).wf=true:=by
 have h1:=h.mode;have A:=h.uid;have B:=h.gid;have D:=h.time;have E:=h.body;intro i;unfold sc bJ;split
 ·exact wf_i64 (n:=m.mode) h1.1 (by omega)
 ·simp only;split<;>exact wf_i64 (by omega) (by omega)
 ·simp only;split<;>exact wf_i64 (by omega) (by omega)
 ·exact wf_i64 (n:=(m.body.length:Int)) (by omega) (by omega)
 ·simp only;split<;>exact wf_i64 (by omega) (by omega)
 ·exact wf_i64 (by omega) (by omega)
theorem Jf (h:kS m):(bJ m).name.length≤140737488351232∧(bJ m).link.length≤140737488351232:=by
 have h1:=h.Fx;have A:=Sp h;unfold bJ;constructor
 ·simp only;split
  ·decide
  ·omega
 ·simp only;split
  ·decide
  ·omega
theorem YT {n:Nat} (h:n≤1048576):∀i,(Lit.int .i64 (sc (Hi n) i)).wf=true:=by
 intro i;unfold sc Hi;split
 ·exact wf_i64 (n:=0) (by omega) (by omega)
 ·exact wf_i64 (n:=0) (by omega) (by omega)
 ·exact wf_i64 (n:=0) (by omega) (by omega)
 ·exact wf_i64 (n:=(n:Int)) (by omega) (by omega)
 ·exact wf_i64 (n:=0) (by omega) (by omega)
 ·exact wf_i64 (by omega) (by omega)
end Mem
namespace Mem
open Go.Lib Fp Hp Path Rec Attr
variable {m:aB} {rs:bW}
section
variable {L X:List UInt8} {s:RS} {h:af}
theorem Ek (h1:¬L.length<512) (hX:L.take 512=X) (hz:bZ X=true) (h2:L.length - 512<512):aG L s=.fault 2:=by
 unfold aG;rw[if_neg h1,hX,hz,if_pos rfl,if_pos h2]
theorem Kq (h1:¬L.length<512) (hX:L.take 512=X) (hz:bZ X=true) (h2:¬L.length - 512<512) (h3:bZ (L.drop 512)=false):aG L s=.fault 9:=by
 unfold aG;rw[if_neg h1,hX,hz,if_pos rfl,if_neg h2,if_pos h3]
theorem tQ (h1:¬L.length<512) (hX:L.take 512=X) (hz:bZ X=true) (h2:¬L.length - 512<512) (h3:bZ (L.drop 512)=true) (h4:s.iT=true∨s.name.isSome=true∨s.link.isSome=true):aG L s=.fault 5:=by
 unfold aG;rw[if_neg h1,hX,hz,if_pos rfl,if_neg h2,if_neg (by rw[h3];decide),if_pos h4]
theorem Hu (h1:¬L.length<512) (hX:L.take 512=X) (hz:bZ X=true) (h2:¬L.length - 512<512) (h3:bZ (L.drop 512)=true) (h4:¬(s.iT=true∨s.name.isSome=true∨s.link.isSome=true)):aG L s=.done:=by
 unfold aG;rw[if_neg h1,hX,hz,if_pos rfl,if_neg h2,if_neg (by rw[h3];decide),if_neg h4]
theorem Sd (h1:¬L.length<512) (hX:L.take 512=X) (hz:bZ X=false) (hh:aR X=(h,e)) (he:e≠0):aG L s=.fault e:=by
 unfold aG;rw[if_neg h1,hX,hz,if_neg (by decide),hh,if_pos he]
theorem Ht (h1:¬L.length<512) (hX:L.take 512=X) (hz:bZ X=false) (hh:aR X=(h,0)) (hk:tZ h.kind=true):aG L s=ji L h s:=by
 unfold aG;rw[if_neg h1,hX,hz,if_neg (by decide),hh,if_neg (by simp),hk,if_pos rfl]
theorem ai9 (h1:¬L.length<512) (hX:L.take 512=X) (hz:bZ X=false) (hh:aR X=(h,0)) (hk:tZ h.kind=false):aG L s=oo L h s:=by
 unfold aG;rw[if_neg h1,hX,hz,if_neg (by decide),hh,if_neg (by simp),hk,if_neg (by decide)]
def qq (h:af) (s:RS):Prop:=(h.kind=120∧s.iT=true)∨(h.kind=76∧s.name.isSome=true)∨(h.kind=75∧s.link.isSome=true)
theorem NM (hd:qq h s):ji L h s=.fault 5:=by
 unfold ji;exact if_pos hd
theorem Ws (hd:¬qq h s) (hl:1048576<h.size):ji L h s=.fault 10:=by
 unfold qq at hd;unfold ji;rw[if_neg hd,if_pos hl]
theorem sk (h1:2097152<n∨L.length - 512<aw n.toNat):kF L n=none:=by
 unfold kF;rw[if_pos h1]
theorem sr (h1:n≤2097152) (h2:aw n.toNat≤L.length - 512):kF L n=some ((L.drop 512).take n.toNat,512+aw n.toNat):=by
 unfold kF;rw[if_neg (by omega)]
theorem yK (hd:¬qq h s) (hl:¬1048576<h.size) (hb:kF L h.size=none):ji L h s=.fault 2:=by
 unfold qq at hd;unfold ji;rw[if_neg hd,if_neg hl,hb]
variable {t:List UInt8} {k:Nat}
theorem Zi (hk:h.kind=76) (hd:¬qq h s) (hl:¬1048576<h.size) (hb:kF L h.size=some (t,k)):ji L h s=.next k {s with name:=some (av t)}:=by
 unfold qq at hd;unfold ji;rw[if_neg hd,if_neg hl,hb];simp only[hk,if_true]
theorem Zh (hk:h.kind=75) (hd:¬qq h s) (hl:¬1048576<h.size) (hb:kF L h.size=some (t,k)):ji L h s=.next k {s with link:=some (av t)}:=by
 unfold qq at hd;unfold ji;rw[if_neg hd,if_neg hl,hb];simp only[hk,if_true];rw[if_neg (by decide)]
theorem Wq (hk:h.kind=120∨h.kind=103) (hd:¬qq h s) (hl:¬1048576<h.size) (hb:kF L h.size=some (t,k)) (hr:aO 5 9 t=(rs,e)) (he:e≠0):ji L h s=.fault e:=by
 unfold qq at hd;unfold ji;rw[if_neg hd,if_neg hl,hb];rcases hk with hk|hk<;>simp only[hk]<;>rw[if_neg (by decide),if_neg (by decide),hr,if_pos he]
theorem Zg (hk:h.kind=103) (hd:¬qq h s) (hl:¬1048576<h.size) (hb:kF L h.size=some (t,k)) (hr:aO 5 9 t=(rs,0)):ji L h s=.next k {s with bE:=s.bE++rs}:=by
 unfold qq at hd;unfold ji;rw[if_neg hd,if_neg hl,hb];simp only[hk];rw[if_neg (by decide),if_neg (by decide),hr,if_neg (by simp),if_pos True.intro]
theorem aj4 (hk:h.kind=120) (hd:¬qq h s) (hl:¬1048576<h.size) (hb:kF L h.size=some (t,k)) (hr:aO 5 9 t=(rs,0)):ji L h s=.next k {s with iT:=true,own:=rs}:=by
 unfold qq at hd;unfold ji;rw[if_neg hd,if_neg hl,hb];simp only[hk];rw[if_neg (by decide),if_neg (by decide),hr,if_neg (by simp),if_neg (by decide)]
theorem Yw (hf:4096≤s.out.length):oo L h s=.fault 10:=by
 unfold oo;rw[if_pos hf]
theorem Yx (hf:¬4096≤s.out.length) (hk:h.kind≠48∧h.kind≠49∧h.kind≠50∧h.kind≠53):oo L h s=.fault 8:=by
 unfold oo;rw[if_neg hf,if_pos hk]
theorem xl (hf:¬4096≤s.out.length) (hk:¬(h.kind≠48∧h.kind≠49∧h.kind≠50∧h.kind≠53)) (hm:jF h s=.error e):oo L h s=.fault e:=by
 unfold oo;rw[if_neg hf,if_neg hk,hm]
theorem Vh (hf:¬4096≤s.out.length) (hk:¬(h.kind≠48∧h.kind≠49∧h.kind≠50∧h.kind≠53)) (hm:jF h s=.ok (m,n)) (hb:kF L n=none):oo L h s=.fault 2:=by
 unfold oo;rw[if_neg hf,if_neg hk,hm];simp only[hb]
theorem ar3 (hf:¬4096≤s.out.length) (hk:¬(h.kind≠48∧h.kind≠49∧h.kind≠50∧h.kind≠53)) (hm:jF h s=.ok (m,n)) (hb:kF L n=some (t,k)):
 oo L h s=.next k {s with out:=s.out++[{m with body:=t}],own:=[],name:=none,link:=none,iT:=false}:=by
 unfold oo;rw[if_neg hf,if_neg hk,hm];simp only[hb]
end
def bI (h:af) (s:RS) (h1:af) (e1:Int):Prop:=cC (aD s.bE) s.own {h with name:=s.name.getD h.name,link:=s.link.getD h.link}=(h1,e1)
section
variable {h h1:af} {s:RS} {e1:Int}
theorem Vl (ha:bI h s h1 e1) (h0:e1≠0):jF h s=.error e1:=by
 unfold bI at ha;unfold jF;simp only[ha];rw[if_pos h0]
theorem YC (ha:bI h s h1 0) (h0:(aF 9 6 h1.name).2≠0):jF h s=.error (aF 9 6 h1.name).2:=by
 unfold bI at ha;unfold jF;simp only[ha];rw[if_neg (by simp),if_pos h0]
theorem YB (ha:bI h s h1 0) (h0:(aF 9 6 h1.name).2=0) (h2:iU h1.mode h1.uid h1.gid h1.time=false):jF h s=.error 4:=by
 unfold bI at ha;unfold jF;simp only[ha];rw[if_neg (by simp),if_neg (by simp[h0]),if_pos h2]
theorem YA (ha:bI h s h1 0) (h0:(aF 9 6 h1.name).2=0) (h2:iU h1.mode h1.uid h1.gid h1.time=true) (h3:h1.kind=49) (h4:(aF 9 6 h1.link).2≠0):jF h s=.error (aF 9 6 h1.link).2:=by
 unfold bI at ha;unfold jF;simp only[ha];rw[if_neg (by simp),if_neg (by simp[h0]),if_neg (by simp[h2]),if_pos ⟨h3,h4⟩]
theorem Rv (ha:bI h s h1 0) (h0:(aF 9 6 h1.name).2=0) (h2:iU h1.mode h1.uid h1.gid h1.time=true) (h3:h1.kind=50) (h4:iV 9 6 h1.link≠0):jF h s=.error (iV 9 6 h1.link):=by
 unfold bI at ha;unfold jF;simp only[ha];rw[if_neg (by simp),if_neg (by simp[h0]),if_neg (by simp[h2]),if_neg (by rw[h3];rintro⟨h,_⟩;exact absurd h (by decide)),if_pos ⟨h3,h4⟩]
def wM (h1:af):Prop:=(h1.kind=49→(aF 9 6 h1.link).2=0)∧(h1.kind=50→iV 9 6 h1.link=0)
theorem Vn (ha:bI h s h1 0) (h0:(aF 9 6 h1.name).2=0) (h2:iU h1.mode h1.uid h1.gid h1.time=true) (h3:wM h1) (h4:h1.kind≠48) (h5:h1.size≠0):jF h s=.error 4:=by
 unfold bI at ha;unfold jF;simp only[ha];rw[if_neg (by simp),if_neg (by simp[h0]),if_neg (by simp[h2]),if_neg (fun h=>h.2 (h3.1 h.1)),if_neg (fun h=>h.2 (h3.2 h.1)),if_pos ⟨h4,h5⟩]
theorem Vm (ha:bI h s h1 0) (h0:(aF 9 6 h1.name).2=0) (h2:iU h1.mode h1.uid h1.gid h1.time=true) (h3:wM h1) (h4:¬(h1.kind≠48∧h1.size≠0)) (h5:1048576<h1.size):jF h s=.error 10:=by
 unfold bI at ha;unfold jF;simp only[ha];rw[if_neg (by simp),if_neg (by simp[h0]),if_neg (by simp[h2]),if_neg (fun h=>h.2 (h3.1 h.1)),if_neg (fun h=>h.2 (h3.2 h.1)),if_neg h4,if_pos h5]
def pU (h1:af):List UInt8:=if h1.kind=49 then(aF 9 6 h1.link).1 else if h1.kind=50 then h1.link else[]
theorem ar5 (ha:bI h s h1 0) (h0:(aF 9 6 h1.name).2=0) (h2:iU h1.mode h1.uid h1.gid h1.time=true) (h3:wM h1) (h4:¬(h1.kind≠48∧h1.size≠0)) (h5:¬1048576<h1.size):
 jF h s=.ok (⟨(aF 9 6 h1.name).1,pU h1,h1.kind,h1.mode,h1.uid,h1.gid,h1.time,[]⟩,h1.size):=by
 unfold bI at ha;unfold jF pU;simp only[ha];rw[if_neg (by simp),if_neg (by simp[h0]),if_neg (by simp[h2]),if_neg (fun h=>h.2 (h3.1 h.1)),if_neg (fun h=>h.2 (h3.2 h.1)),if_neg h4,if_neg h5]
theorem ah0 (h:h1.kind=50) (h0:iV 9 6 h1.link=0):wM h1:=⟨fun e=>by rw[h]at e;exact absurd e (by decide),fun _=>h0⟩
end
end Mem
end Go.Proofs.YtdhibldkldlfpaaGreatDoor
