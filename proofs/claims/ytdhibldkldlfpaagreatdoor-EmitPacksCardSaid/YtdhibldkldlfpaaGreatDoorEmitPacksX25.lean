/- Merged. -/
import Derived.Test.YtdhibldkldlfpaaGreatDoorEmitPacksX24
import Derived.Lib.ParseIntB
import Derived.Lib.AtoiTie
import Derived.Lib.ItoaNum
import Derived.Test.YtdhibldkldlfpaaGreatDoorEmitPacksX19
import Derived.Lib.LaidTab
import Derived.Test.YtdhibldkldlfpaaGreatDoorEmitPacksX6
import Derived.Test.YtdhibldkldlfpaaGreatDoorEmitPacksX10
namespace Go.Proofs.YtdhibldkldlfpaaGreatDoor
namespace Attr
end Attr
namespace Mem
end Mem
set_option linter.unusedVariables false
set_option maxHeartbeats 1000000
set_option maxRecDepth 100000
variable {n:Int} {b l v:List UInt8} {k:Nat}
namespace Rec
open Go.Lib Path
theorem NF (u:Nat):decDigits u=ax u:=by
 induction u using Nat.strongRecOn with
 |ind u ih=>
  by_cases h:u<10
  ·rw[decDigits,dif_pos h,ee h,oW,Nat.mod_eq_of_lt h]
  ·rw[decDigits,dif_neg h,fY h,ih _ (by omega)]
   rfl
theorem KZ (u:Nat):itoa (u:Int)=ax u:=by
 unfold itoa;rw[if_neg (by omega),Int.toNat_natCast,NF]
theorem Gj (l:List UInt8):∀acc k,acc<10 ^ k→k+l.length≤18→parseUintM (2 ^ 64 - 1) acc l=if l.all bL then .ok (l.foldl (fun n b=>n*10+(b.toNat - 48)) acc)else NumEnd.ofOption none:=by
 induction l with
 |nil=>intro acc k _ _;rfl
 |cons c r ih=>
  intro acc k h1 B;rw[List.length_cons]at B;have D:10 ^ k≤10 ^ 17:=Nat.pow_le_pow_right (by omega) (by omega);have A:(10:Nat) ^ 17=100000000000000000:=by decide
  rw[A]at D;rw[parseUintM,List.all_cons,List.foldl_cons]
  by_cases hc:48≤c.toNat∧c.toNat≤57
  ·have hd:bL c=true:=by simp[bL,hc]
   rw[if_pos hc,if_neg (by omega),if_neg (by have:(2:Nat) ^ 64 - 1=18446744073709551615:=by decide
                                             omega),hd,Bool.true_and]
   exact ih _ (k+1) (by rw[Nat.pow_succ];omega) (by omega)
  ·have hd:bL c=false:=by simp[bL];omega
   rw[if_neg hc,hd];rfl
theorem Lv (l:List UInt8) (h1:1≤l.length) (h2:l.length≤18):parseUintB 64 l=if l.all bL then .ok (iL l)else NumEnd.ofOption none:=by
 unfold parseUintB;rw[if_neg (by rintro rfl;simp at h1),Gj l 0 0 (by decide) (by omega)];rfl
def nD (l:List UInt8):Option Nat:=if l.length<1∨7<l.length∨l.getD 0 0=48 then none else if l.all bL then some (iL l)else none
theorem yU {m:Nat} (h:nD l=some m):1≤l.length∧l.length≤7∧l.getD 0 0≠48∧(∀b∈l,bL b=true)∧m=iL l∧m<10000000:=by
 unfold nD at h;split at h
 ·cases h
 ·next h1=>
  split at h
  ·next B=>
   cases h
   have A:=List.all_eq_true.1 B;refine⟨by omega,by omega,fun e=>h1 (.inr (.inr e)),A,rfl,?_⟩;have D:=Jh l A;have E:10 ^ l.length≤10 ^ 7:=Nat.pow_le_pow_right (by omega) (by omega);have G:(10:Nat) ^ 7=10000000:=by decide
   omega
  ·cases h
def qh (l:List UInt8):Option (List UInt8 × Nat):=
 if indexByte l 32<0 then none
 else match nD (l.take (indexByte l 32).toNat)with
 |none=>none
 |some m=>
  if m<(indexByte l 32).toNat+4∨l.length<m∨l.getD (m - 1) 0≠10 then none
  else some ((l.drop ((indexByte l 32).toNat+1)).take (m - 1 - ((indexByte l 32).toNat+1)),m)
theorem uT (l:List UInt8) (i:Nat) (hi:indexByte l 32=i):i<l.length∧l.getD i 0=32∧(∀j,j<i→l.getD j 0≠32):=by
 have h1:=Lib.indexByte_some hi;have D:=(List.getElem?_eq_some_iff.1 h1.1).1;refine⟨D,by rw[List.getD,h1.1];rfl,fun j E e=>?_⟩;have A:=h1.2 j E;have B:j<l.length:=by omega
 rw[List.getD,Qd B]at e;rw[Qd B]at A;exact A (by rw[←e];rfl)
theorem AP (R T:Int) (l:List UInt8):eA R T l=match qh l with
 |none=>.error R
 |some (t,m)=>if indexByte t 61<1 then .error R else if aZ t=false then .error T else .ok (t.take (indexByte t 61).toNat,t.drop ((indexByte t 61).toNat+1),m):=by
 obtain⟨c,W⟩:=Ki l;unfold qh
 by_cases N:indexByte l 32<0
 ·rw[if_pos N]
  simp only;unfold eA;rw[if_pos];have d:indexByte l 32=-1:=by have:=Lib.indexByte_ge l 32;omega
  by_cases hl:iu l=l.length
  ·exact .inr (.inr (.inr (.inl hl)))
  ·refine .inr (.inr (.inr (.inr fun e=>?_)))
   have hc:l.contains 32=false:=by rw[←cN.rM,decide_eq_false (by omega)]
   exact cN.KI hc (iu l) (by omega) e
 ·rw[if_neg N]
  obtain⟨i,hi⟩:∃i:Nat,indexByte l 32=i:=⟨(indexByte l 32).toNat,by omega⟩
  obtain⟨Z,G,H⟩:=uT l i hi;rw[hi,Int.toNat_natCast];have O:(l.take i).length=i:=by rw[Qg];omega
  have E:∀j,j<i→(l.take i).getD j 0=l.getD j 0:=fun j B=>by
   rw[List.getD,List.getD,List.getElem?_take,if_pos B]
  cases D:nD (l.take i)with
  |none=>
   simp only;unfold eA;rw[if_pos]
   by_cases L:(l.take i).all bL=true
   ·have A:iu l=i:=Ia l i (by omega) (fun j B=>by
     rw[←E j B];have:j<(l.take i).length:=by omega
     rw[List.getD,Qd this]
     exact List.all_eq_true.1 L _ (List.getElem_mem this)) (.inr (by rw[G];decide))
    unfold nD at D;rw[L,if_pos rfl,O]at D
    by_cases hc:i<1∨7<i∨(l.take i).getD 0 0=48
    ·rw[A]
     rcases hc with h|h|h
     ·exact .inl h
     ·exact .inr (.inl h)
     ·by_cases M:i<1
      ·exact .inl M
      ·rw[E 0 (by omega)]at h
       exact .inr (.inr (.inl h))
    ·rw[if_neg hc]at D
     cases D
   ·
    have V:iu l<i:=by
     rcases Nat.lt_or_ge (iu l) i with h|h
     ·exact h
     ·exfalso
      refine L (List.all_eq_true.2 fun b X=>W b ?_);obtain⟨j,B,rfl⟩:=List.mem_iff_getElem.1 X;rw[List.getElem_take];have U:j<(l.take (iu l)).length:=by rw[Qg];omega
      have:(l.take (iu l))[j]=l[j]'(by omega):=List.getElem_take;rw[←this];exact List.getElem_mem U
    exact .inr (.inr (.inr (.inr (H _ V))))
  |some m=>
   obtain⟨Y,n7,n48,I,J,_⟩:=yU D;rw[O]at Y n7;rw[E 0 (by omega)]at n48
   have A:iu l=i:=Ia l i (by omega) (fun j B=>by
    rw[←E j B];have:j<(l.take i).length:=by omega
    rw[List.getD,Qd this]
    exact I _ (List.getElem_mem this)) (.inr (by rw[G];decide))
   simp only;unfold eA
   rw[A,←J,if_neg (by
    rintro(e|e|e|e|e)
    ·omega
    ·omega
    ·exact n48 e
    ·omega
    ·exact e G)]
   by_cases hc:m<i+4∨l.length<m∨l.getD (m - 1) 0≠10
   ·rw[if_pos hc,if_pos (by
     rcases hc with h|h|h
     ·exact .inr (.inl h)
     ·exact .inl h
     ·exact .inr (.inr h))]
   ·rw[if_neg hc,if_neg (by
     rintro(e|e|e)
     ·exact hc (.inr (.inl e))
     ·exact hc (.inl e)
     ·exact hc (.inr (.inr e)))]
theorem CL (m:Nat) (hm:0<m):fw m=m+(ax m).length∧(ax (m+(ax m).length)).length=(ax m).length∨
 fw m=m+(ax (m+(ax m).length)).length∧(ax (m+(ax m).length)).length≠(ax m).length∧(ax (m+(ax (m+(ax m).length)).length)).length=(ax (m+(ax m).length)).length:=by
 have he:=qD m hm
 by_cases h:(ax (m+(ax m).length)).length=(ax m).length
 ·left
  unfold fw;rw[if_pos h];exact⟨rfl,h⟩
 ·right
  have hl:fw m=m+(ax m).length+1:=by unfold fw;rw[if_neg h]
  rw[hl]at he;have h1:=lz (show m+(ax m).length≤m+(ax m).length+1 by omega);have B:=lz (show m≤m+(ax m).length by omega);have A:(ax (m+(ax m).length)).length=(ax m).length+1:=by omega
  refine⟨by rw[hl,A];omega,h,?_⟩;rw[A,←Nat.add_assoc];omega
end Rec
namespace Attr
open Go.Lib Rec Hp
variable {k:List UInt8}
abbrev cH:=List (List UInt8 × List UInt8)
def aL:cH→List UInt8→Option (List UInt8)
 |[],_=>none
 |r::rs,k=>match aL rs k with
  |some v=>some v
  |none=>if r.1=k then some r.2 else none
theorem oz (a b:cH) (k:List UInt8):aL (a++b) k=match aL b k with
 |some v=>some v
 |none=>aL a k:=by
 induction a with
 |nil=>cases h:aL b k<;>simp[aL,h]
 |cons r a ih=>
  rw[List.cons_append,aL,ih]
  cases h:aL b k with
  |some v=>rfl
  |none=>rfl
theorem FN (a:cH) (r:List UInt8 × List UInt8) (k:List UInt8):aL (a++[r]) k=if r.1=k then some r.2 else aL a k:=by
 rw[oz]
 by_cases h:r.1=k<;>simp[aL,h]
theorem vM {rs:cH} (h:∀r∈rs,r.1≠k):aL rs k=none:=by
 induction rs with
 |nil=>rfl
 |cons r rs ih=>
  rw[aL,ih fun x A=>h x (List.mem_cons_of_mem _ A)];simp[h r (List.mem_cons_self ..)]
theorem yN {rs:cH} (h:aL rs k=some v):∃r∈rs,r.1=k∧r.2=v:=by
 induction rs with
 |nil=>cases h
 |cons r rs ih=>
  rw[aL]at h
  cases hl:aL rs k with
  |some u=>
   rw[hl]at h ih;obtain⟨x,A,h1⟩:=ih h;exact⟨x,List.mem_cons_of_mem _ A,h1⟩
  |none=>
   rw[hl]at h
   by_cases hk:r.1=k
   ·simp only[hk,if_true]at h
    exact⟨r,List.mem_cons_self ..,hk,Option.some.inj h⟩
   ·simp[hk]at h
def fa (F:List UInt8→Option (List UInt8)) (own:cH) (k:List UInt8):List UInt8:=match aL own k with
 |some v=>v
 |none=>(F k).getD []
def qK:List UInt8→Option (List UInt8):=fun _=>none
def gQ (F:List UInt8→Option (List UInt8)) (rs:cH):List UInt8→Option (List UInt8):=fun k=>match aL rs k with
 |some v=>some v
 |none=>F k
theorem yR (F:List UInt8→Option (List UInt8)):gQ F []=F:=rfl
theorem F5 (F:List UInt8→Option (List UInt8)) (rs:cH) (r:List UInt8 × List UInt8):gQ F (rs++[r])=fun k=>if k=r.1 then some r.2 else gQ F rs k:=by
 funext k
 unfold gQ;rw[FN]
 by_cases h:k=r.1
 ·simp[h]
 ·have:¬r.1=k:=fun e=>h e.symm
  simp[h,this]
theorem F4 (F:List UInt8→Option (List UInt8)) (a b:cH):gQ (gQ F a) b=gQ F (a++b):=by
 funext k
 unfold gQ;rw[oz]
 cases aL b k<;>rfl
theorem wv (rs:cH):gQ qK rs=aL rs:=by
 funext k
 unfold gQ qK
 cases aL rs k<;>rfl
def xW (l:List UInt8):Option Nat:=
 if 0≤indexByte l 46 then(if(l.drop ((indexByte l 46).toNat+1)).all bL then dR (l.take (indexByte l 46).toNat)else none)else dR l
def aB:Nat→List UInt8
 |0=>[117,105,100]|1=>[103,105,100]|2=>[109,116,105,109,101]|3=>[115,105,122,101]|4=>[112,97,116,104]|_=>[108,105,110,107,112,97,116,104]
def fh (time:Bool) (v:List UInt8) (old:Int):Option Int:=
 if v=[]then some old else Option.map Int.ofNat (if time then xW v else dR v)
def aJ (v old:List UInt8):List UInt8:=if v=[]then old else v
def fN (V:Nat→List UInt8) (h:aq):aq × Int:=
 match fh false (V 0) h.uid,fh false (V 1) h.gid,fh true (V 2) h.time,fh false (V 3) h.size with
 |some u,some g,some t,some s=>({h with name:=aJ (V 4) h.name,link:=aJ (V 5) h.link,uid:=u,gid:=g,time:=t,size:=s},0)
 |_,_,_,_=>(ch,4)
def cU (F:List UInt8→Option (List UInt8)) (own:cH) (h:aq):aq × Int:=fN (fun i=>fa F own (aB i)) h
theorem B6 (l:List UInt8) (h:∀b∈l,bL b=true):∀acc,decFrom acc l=some (l.foldl (fun n b=>n*10+(b.toNat - 48)) acc):=by
 induction l with
 |nil=>intro acc;rfl
 |cons c l ih=>
  intro acc;have hc:=h c (List.mem_cons_self ..);simp only[bL,decide_eq_true_eq]at hc
  have hd:digitVal c=some (c.toNat - 48):=by
   simp[digitVal];omega
  rw[decFrom,hd];exact ih (fun b A=>h b (List.mem_cons_of_mem _ A)) _
theorem Nu (l:List UInt8) (h0:l≠[]) (h:∀b∈l,bL b=true):atoi l=some (iL l:Int):=by
 cases l with
 |nil=>exact absurd rfl h0
 |cons c l=>
  have hc:=h c (List.mem_cons_self ..);simp only[bL,decide_eq_true_eq]at hc;have B:(c==45)=false:=beq_eq_false_iff_ne.2 fun e=>by subst e;exact absurd hc.1 (by decide)
  have A:(c==43)=false:=beq_eq_false_iff_ne.2 fun e=>by subst e;exact absurd hc.1 (by decide)
  unfold atoi;simp only[B,A,decNat,List.isEmpty_cons,B6 _ h];rfl
theorem Qq (l:List UInt8):(trimS l [48,49,50,51,52,53,54,55,56,57]=[])↔∀b∈l,bL b=true:=by
 have hd:∀b:UInt8,([48,49,50,51,52,53,54,55,56,57]:List UInt8).contains b=bL b:=fun b=>by
  rw[Bool.eq_iff_iff];simp only[List.contains_iff_mem,bL,decide_eq_true_eq,List.mem_cons,List.not_mem_nil,or_false];constructor
  ·rintro(rfl|rfl|rfl|rfl|rfl|rfl|rfl|rfl|rfl|rfl)<;>decide
  ·intro h
   have e:∀n:Nat,b.toNat=n→b=UInt8.ofNat n:=fun n H=>by rw[←H];simp
   have:b.toNat=48∨b.toNat=49∨b.toNat=50∨b.toNat=51∨b.toNat=52∨b.toNat=53∨b.toNat=54∨b.toNat=55∨b.toNat=56∨b.toNat=57:=by omega
   rcases this with h|h|h|h|h|h|h|h|h|h<;>(have:=e _ h;subst this;decide)
 have E:∀l:List UInt8,l.dropWhile (([48,49,50,51,52,53,54,55,56,57]:List UInt8).contains ·)=[]↔∀b∈l,bL b=true:=fun l=>by
  induction l with
  |nil=>simp
  |cons c l ih=>
   rw[List.dropWhile_cons]
   by_cases hc:bL c=true
   ·rw[if_pos (by rw[hd];exact hc),ih]
    simp[hc]
   ·rw[if_neg (by rw[hd];exact hc)]
    simp[hc]
 have G:∀l:List UInt8,(∃b∈l,bL b=false)→∃b∈trimRightS l [48,49,50,51,52,53,54,55,56,57],bL b=false:=fun l h=>by
  unfold trimRightS;obtain⟨b,A,D⟩:=h
  have:∀m:List UInt8,b∈m→b∈m.dropWhile (([48,49,50,51,52,53,54,55,56,57]:List UInt8).contains ·):=fun m=>by
   induction m with
   |nil=>intro h;exact h
   |cons c m ih=>
    intro hm;rw[List.dropWhile_cons]
    by_cases hc:bL c=true
    ·rw[if_pos (by rw[hd];exact hc)]
     rcases List.mem_cons.1 hm with rfl|hm
     ·rw[D]at hc;cases hc
     ·exact ih hm
    ·rw[if_neg (by rw[hd];exact hc)]
     exact hm
  exact⟨b,List.mem_reverse.2 (this _ (List.mem_reverse.2 A)),D⟩
 unfold trimS trimLeftS;rw[E];constructor
 ·intro h b A
  cases D:bL b with
  |true=>rfl
  |false=>
   obtain⟨c,hc,B⟩:=G l ⟨b,A,D⟩;rw[h c hc]at B
   cases B
 ·intro h b A
  refine h b ?_;unfold trimRightS at A;exact List.mem_reverse.1 ((List.dropWhile_suffix _).subset (List.mem_reverse.1 A))
end Attr
namespace Mem
open Go.Lib Fp Hp Path Rec Attr
variable {e:Int} {H L t body:List UInt8} {F:List UInt8→Option (List UInt8)} {V:Nat→List UInt8} {h:aq}
structure aw where
 path:List UInt8
 target:List UInt8
 kind:UInt8
 mode:Int
 uid:Int
 gid:Int
 time:Int
 body:List UInt8
deriving instance DecidableEq for aw
def fp (mode uid gid time:Int):Bool:=decide (0≤mode∧mode≤4095∧0≤uid∧uid<2147483648∧0≤gid∧gid<2147483648∧0≤time∧time≤1099511627776)
def dW (l:List UInt8):Bool:=decide (bU 9 6 l=(l,0))
def bZ (m:aw):Bool:=
 dW m.path&&fp m.mode m.uid m.gid m.time&&decide (m.body.length≤1048576)&&(m.kind==48||m.body==[])&&
  (if m.kind=48∨m.kind=53 then m.target==[]else if m.kind=49 then dW m.target else if m.kind=50 then decide (dL 9 6 m.target=0)else false)
structure RS where
 out:List aw
 dG:cH
 own:cH
 name:Option (List UInt8)
 link:Option (List UInt8)
 fx:Bool
inductive Step where
 |fault (e:Int)
 |done
 |next (k:Nat) (s:RS)
def bg (n:Nat):Nat:=(n+511) / 512*512
def sG (l:List UInt8) (n:Int):Option (List UInt8 × Nat):=
 if 2097152<n∨l.length - 512<bg n.toNat then none else some ((l.drop 512).take n.toNat,512+bg n.toNat)
def j1 (l:List UInt8) (h:aq) (s:RS):Step:=
 if(h.kind=120∧s.fx=true)∨(h.kind=76∧s.name.isSome=true)∨(h.kind=75∧s.link.isSome=true)then .fault 5
 else if 1048576<h.size then .fault 10
 else match sG l h.size with
  |none=>.fault 2
  |some (t,k)=>
   if h.kind=76 then .next k {s with name:=some (aK t)}
   else if h.kind=75 then .next k {s with link:=some (aK t)}
   else if(di 5 9 t).2≠0 then .fault (di 5 9 t).2
   else if h.kind=103 then .next k {s with dG:=s.dG++(di 5 9 t).1}
   else .next k {s with fx:=true,own:=(di 5 9 t).1}
def qH (h:aq) (s:RS):Except Int (aw × Int):=
 let a:=cU (aL s.dG) s.own {h with name:=s.name.getD h.name,link:=s.link.getD h.link}
 let c:=bU 9 6 a.1.name
 let d:=bU 9 6 a.1.link
 let t:=dL 9 6 a.1.link
 if a.2≠0 then .error a.2
 else if c.2≠0 then .error c.2
 else if fp a.1.mode a.1.uid a.1.gid a.1.time=false then .error 4
 else if a.1.kind=49∧d.2≠0 then .error d.2
 else if a.1.kind=50∧t≠0 then .error t
 else if a.1.kind≠48∧a.1.size≠0 then .error 4
 else if 1048576<a.1.size then .error 10
 else .ok (⟨c.1,if a.1.kind=49 then d.1 else if a.1.kind=50 then a.1.link else[],a.1.kind,a.1.mode,a.1.uid,a.1.gid,a.1.time,[]⟩,a.1.size)
def qG (l:List UInt8) (h:aq) (s:RS):Step:=
 if 4096≤s.out.length then .fault 10
 else if h.kind≠48∧h.kind≠49∧h.kind≠50∧h.kind≠53 then .fault 8
 else match qH h s with
  |.error e=>.fault e
  |.ok (m,n)=>match sG l n with
   |none=>.fault 2
   |some (t,k)=>.next k {s with out:=s.out++[{m with body:=t}],own:=[],name:=none,link:=none,fx:=false}
def eu (l:List UInt8):Bool:=l.all (·==0)
def qx (k:UInt8):Bool:=k==120||k==103||k==76||k==75
def eK (l:List UInt8) (s:RS):Step:=
 if l.length<512 then .fault 2
 else if eu (l.take 512)then
  if l.length - 512<512 then .fault 2
  else if eu (l.drop 512)=false then .fault 9
  else if s.fx=true∨s.name.isSome=true∨s.link.isSome=true then .fault 5
  else .done
 else if(bG (l.take 512)).2≠0 then .fault (bG (l.take 512)).2
 else if qx (bG (l.take 512)).1.kind then j1 l (bG (l.take 512)).1 s
 else qG l (bG (l.take 512)).1 s
def pK:Nat→List UInt8→Nat→RS→List aw × Int × Nat
 |0,_,_,_=>([],2,0)
 |f+1,l,at_,s=>match eK l s with
  |.fault e=>([],e,at_)
  |.done=>(s.out,0,0)
  |.next k s'=>pK f (l.drop k) (at_+k) s'
def cj (l:List UInt8) (at_:Nat) (s:RS):List aw × Int × Nat:=pK (l.length+1) l at_ s
def iK:RS:=⟨[],[],[],none,none,false⟩
def dv (b:List UInt8):List aw × Int × Nat:=cj b 0 iK
theorem lV (h:sG l n=some (t,k)):k=512+bg n.toNat∧bg n.toNat≤l.length - 512∧t=(l.drop 512).take n.toNat∧n≤2097152:=by
 unfold sG at h;split at h
 ·cases h
 ·cases h
  exact⟨rfl,by omega,rfl,by omega⟩
theorem lN {s s':RS} (h:eK l s=.next k s'):512≤k∧k≤l.length:=by
 unfold eK at h;split at h
 ·cases h
 ·rename_i D
  split at h
  ·split at h
   ·cases h
   ·split at h
    ·cases h
    ·split at h<;>cases h
  ·split at h
   ·cases h
   ·split at h
    ·unfold j1 at h
     split at h
     ·cases h
     ·split at h
      ·cases h
      ·split at h
       ·cases h
       ·rename_i t k' A
        obtain⟨h1,B,_,_⟩:=lV A
        have hk:k=k':=by
         split at h
         ·cases h;rfl
         ·split at h
          ·cases h;rfl
          ·split at h
           ·cases h
           ·split at h<;>(cases h;rfl)
        omega
    ·unfold qG at h
     split at h
     ·cases h
     ·split at h
      ·cases h
      ·split at h
       ·cases h
       ·split at h
        ·cases h
        ·rename_i t k' A
         obtain⟨h1,B,_,_⟩:=lV A
         cases h
         omega
theorem Dq (n:Nat):∀m l at_ s,l.length<n→l.length<m→pK n l at_ s=pK m l at_ s:=by
 induction n with
 |zero=>intro m l at_ s h;omega
 |succ n ih=>
  intro m l at_ s h1 A
  cases m with
  |zero=>omega
  |succ m=>
   rw[pK,pK]
   cases hs:eK l s with
   |fault e=>rfl
   |done=>rfl
   |next k B=>
    obtain⟨g1,g2⟩:=lN hs;exact ih m _ _ _ (by rw[Qe];omega) (by rw[Qe];omega)
theorem la (l:List UInt8) (at_:Nat) (s:RS):cj l at_ s=match eK l s with
 |.fault e=>([],e,at_)
 |.done=>(s.out,0,0)
 |.next k s'=>cj (l.drop k) (at_+k) s':=by
 unfold cj;rw[pK]
 cases hs:eK l s with
 |fault e=>rfl
 |done=>rfl
 |next k s'=>
  obtain⟨g1,g2⟩:=lN hs;exact Dq _ _ _ _ _ (by rw[Qe];omega) (by omega)
theorem fC {s:RS} (h:eK l s=.fault e) (at_:Nat):cj l at_ s=([],e,at_):=by rw[la,h]
theorem iQ {s:RS} (h:eK l s=.done) (at_:Nat):cj l at_ s=(s.out,0,0):=by rw[la,h]
theorem fU {s s':RS} (h:eK l s=.next k s') (at_:Nat):cj l at_ s=cj (l.drop k) (at_+k) s':=by rw[la,h]
def gm (l:List UInt8):Bool:=l.all fun b=>decide (b.toNat≤127)
def bz:List UInt8:=[64,108,111,110,103]
def ZZ:List UInt8:=[64,112,97,120]
def tS (n:Nat):aq:=⟨ZZ,[],120,0,0,0,0,(n:Int),false⟩
def ik (m:aw):Bool:=(fR m.path).isNone||!gm m.path
def gP (m:aw):Bool:=decide (100<m.target.length)||!gm m.target
def bF (m:aw):aq:=
 ⟨if ik m then bz else m.path,if gP m then bz else m.target,m.kind,m.mode,if 2097151<m.uid then 0 else m.uid,if 2097151<m.gid then 0 else m.gid,if 8589934591<m.time then 0 else m.time,(m.body.length:Int),false⟩
def aT (m:aw):cH:=
 (if ik m then[(aB 4,m.path)]else[])++(if gP m then[(aB 5,m.target)]else[])++(if 2097151<m.uid then[(aB 0,ax m.uid.toNat)]else[])++
  (if 2097151<m.gid then[(aB 1,ax m.gid.toNat)]else[])++(if 8589934591<m.time then[(aB 2,ax m.time.toNat)]else[])
def fr (l:List UInt8):List UInt8:=l++List.replicate (bg l.length - l.length) 0
def fu (m:aw):List UInt8:=
 (if aM (aT m)=[]then[]else(eI (tS (aM (aT m)).length)).getD []++fr (aM (aT m)))++((eI (bF m)).getD []++fr m.body)
def sC (ms:List aw):List UInt8:=(ms.map fu).flatten++List.replicate 1024 0
theorem fG (n:Nat):n≤bg n∧bg n<n+512:=by unfold bg;omega
theorem bu (l:List UInt8):(fr l).length=bg l.length:=by
 have:=(fG l.length).1;simp only[fr,Qf,List.length_replicate];omega
theorem yp (H body rest:List UInt8) (hH:H.length=512) (hb:body.length≤2097152):sG (H++(fr body++rest)) (body.length:Int)=some (body,512+bg body.length):=by
 unfold sG;have A:=bu body;rw[if_neg (by simp only[Qf,hH,A,Int.toNat_natCast];omega),Int.toNat_natCast]
 congr 2
 rw[←hH,List.drop_left,fr,List.append_assoc,List.take_left'];rfl
theorem B8 (H body rest:List UInt8) (hH:H.length=512):(H++(fr body++rest)).drop (512+bg body.length)=rest:=by
 rw[←hH,←bu,List.drop_append,List.drop_append];simp
theorem pL (base:Int) (hb:0<base):∀(k:Nat) (n:Int),0≤n→n<base ^ k→cZ base k n=0
 |0,n,h0,h1=>by simp only[Int.pow_zero]at h1;simp only[cZ];omega
 |k+1,n,h0,h1=>by
  rw[cZ];refine pL base hb k _ (Int.ediv_nonneg h0 (by omega)) (Int.ediv_lt_of_lt_mul hb ?_)
  rwa [Int.pow_succ]at h1
theorem tq (h0:0≤n) (h1:n<2097152):(dJ n 8).isSome=true:=by
 rw[rW h0 (by omega) (by omega) (by omega) (pL 8 (by omega) _ n h0 (by simpa using h1))];rfl
theorem wL (h0:0≤n) (h1:n<8589934592):(dJ n 12).isSome=true:=by
 rw[rW h0 (by omega) (by omega) (by omega) (pL 8 (by omega) _ n h0 (by simpa using h1))];rfl
theorem I3 (hc:(fR h.name).isSome=true) (hb:gX h=false) (hn:eX h=true):∃H,eI h=some H∧H.length=512∧bG H=(h,0):=by
 obtain⟨ps,A⟩:=Option.isSome_iff_exists.1 hc
 have e:eI h=some (ba (rS h ps.1 ps.2)):=by
  unfold eI;rw[A];simp[hb,hn]
 exact⟨_,e,aI _,KL e⟩
theorem uL (l:List UInt8) (h:∀b∈l,0<b.toNat∧b.toNat<128):aZ l=true:=by
 induction l with
 |nil=>exact sg
 |cons c l ih=>
  obtain⟨h1,A⟩:=Cn c (h c (List.mem_cons_self ..)) l;rw[eZ _ (by simp),if_pos h1,A];exact ih fun b B=>h b (List.mem_cons_of_mem _ B)
theorem tB (h:aZ l=true):∀x∈l,x≠0:=by
 rw[xm,Bool.and_eq_true,Bool.not_eq_true']at h;intro x A e;subst e;have:=h.2;rw[List.contains_eq_mem,decide_eq_false_iff_not]at this;exact this A
theorem uS (n:Nat):aZ (ax n)=true:=uL _ fun b A=>by
 have:=qj n b A;simp only[bL,decide_eq_true_eq]at this;omega
theorem E8 (n:Nat):ax n≠[]:=List.length_pos_iff.1 (gG n)
theorem sr {n:Nat} (h:n<10 ^ 18):dR (ax n)=some n:=by
 have h1:=gG n;have B:=gH n 18 (by omega) h;have A:(ax n).all bL=true:=List.all_eq_true.2 (qj n);rw[dR,if_neg (by omega),if_pos A,DP]
theorem index_none (l:List UInt8) (c:UInt8) (h:c∉l):indexByte l c=-1:=by
 induction l with
 |nil=>rfl
 |cons b l ih=>
  have A:(b==c)=false:=beq_eq_false_iff_ne.2 fun e=>h (by rw[e];exact List.mem_cons_self ..)
  have hi:=ih fun hc=>h (List.mem_cons_of_mem _ hc)
  simp[indexByte,A,hi]
theorem Tb {n:Nat} (h:n<10 ^ 18):xW (ax n)=some n:=by
 have:indexByte (ax n) 46=-1:=index_none _ _ fun hc=>by
  have:=qj n 46 hc;exact absurd this (by decide)
 rw[xW,this,if_neg (by omega),sr h]
structure dz (m:aw):Prop where
 path:bU 9 6 m.path=(m.path,0)
 Ul:aZ m.path=true
 ZY:m.path≠[]
 wJ:m.path.length≤200
 mode:0≤m.mode∧m.mode≤4095
 uid:0≤m.uid∧m.uid<2147483648
 gid:0≤m.gid∧m.gid<2147483648
 time:0≤m.time∧m.time≤1099511627776
 body:m.body.length≤1048576
 file:m.kind≠48→m.body=[]
 kind:m.kind=48∨m.kind=49∨m.kind=50∨m.kind=53
 none:m.kind=48∨m.kind=53→m.target=[]
 Vy:m.kind=49→bU 9 6 m.target=(m.target,0)
 sym:m.kind=50→dL 9 6 m.target=0
 Un:aZ m.target=true
 DL:m.target.length≤200
theorem sI (h:bU 9 6 l=(l,0)):aZ l=true∧l≠[]∧l.length≤200:=by
 have h1:=(qf 9 6 (by omega) (by omega) l l).1 h;have A:=pA 9 6 (by omega) (by omega) l l h;exact⟨h1.1,A.2.1,A.2.2.2⟩
theorem A3 (h:dL 9 6 l=0):aZ l=true∧l≠[]∧l.length≤200:=by
 unfold dL at h;split at h
 ·omega
 ·rename_i h1
  split at h
  ·omega
  ·rename_i A
   simp only[not_or]at A;exact⟨by simpa using h1,A.1,by omega⟩
theorem ga {m:aw} (h:bZ m=true):dz m:=by
 simp only[bZ,Bool.and_eq_true,dW,fp,decide_eq_true_eq,Bool.or_eq_true,beq_iff_eq]at h;obtain⟨⟨⟨⟨h1,U⟩,L⟩,M⟩,A⟩:=h;obtain⟨O,R,T⟩:=sI h1
 have hk:(m.kind=48∨m.kind=49∨m.kind=50∨m.kind=53)∧((m.kind=48∨m.kind=53)→m.target=[])∧(m.kind=49→bU 9 6 m.target=(m.target,0))∧(m.kind=50→dL 9 6 m.target=0):=by
  split at A
  ·rename_i hk
   refine⟨by rcases hk with e|e<;>simp[e],fun _=>by simpa using A,fun e=>?_,fun e=>?_⟩<;>(rw[e]at hk;exact absurd hk (by decide))
  ·rename_i hk
   split at A
   ·rename_i B
    refine⟨by simp[B],fun e=>absurd e hk,fun _=>by simpa using A,fun e=>?_⟩;rw[B]at e;exact absurd e (by decide)
   ·rename_i B
    split at A
    ·rename_i J
     exact⟨by simp[J],fun e=>absurd e hk,fun e=>absurd e B,fun _=>by simpa using A⟩
    ·cases A
 obtain⟨G,D,H,I⟩:=hk
 have E:aZ m.target=true∧m.target.length≤200:=by
  rcases G with e|e|e|e
  ·rw[D (.inl e)];exact⟨sg,by simp⟩
  ·have:=sI (H e);exact⟨this.1,this.2.2⟩
  ·have:=A3 (I e);exact⟨this.1,this.2.2⟩
  ·rw[D (.inr e)];exact⟨sg,by simp⟩
 exact⟨h1,O,R,T,by omega,by omega,by omega,by omega,L,fun N=>M.resolve_left N,G,D,H,I,E.1,E.2⟩
theorem rK {m:aw} (h:dz m):∃H,eI (bF m)=some H∧H.length=512∧bG H=(bF m,0):=by
 refine I3 ?_ ?_ ?_
 ·show(fR (if ik m then bz else m.path)).isSome=true
  split
  ·rfl
  ·rename_i A
   simp only[ik,Bool.or_eq_true,not_or,Bool.not_eq_true,Option.isNone_eq_false_iff]at A;exact A.1
 ·have G:(bF m).name.contains 0=false:=by
   show(if ik m then bz else m.path).contains 0=false;split
   ·decide
   ·rw[List.contains_eq_mem,decide_eq_false_iff_not]
    exact fun D=>tB h.Ul 0 D rfl
  have I:(bF m).link.contains 0=false:=by
   show(if gP m then bz else m.target).contains 0=false;split
   ·decide
   ·rw[List.contains_eq_mem,decide_eq_false_iff_not]
    exact fun D=>tB h.Un 0 D rfl
  have hl:(bF m).link.length≤100:=by
   show(if gP m then bz else m.target).length≤100;split
   ·decide
   ·rename_i A
    simp only[gP,Bool.or_eq_true,not_or,Bool.not_eq_true,decide_eq_false_iff_not]at A;omega
  have hk:(m.kind==0)=false:=by rcases h.kind with e|e|e|e<;>rw[e]<;>decide
  have L:((bF m).kind==0)=false:=hk;have B:(bF m).fL=false:=rfl;have E:decide (100<(bF m).link.length)=false:=decide_eq_false (by omega);simp only[gX,G,I,L,B,E,Bool.or_false]
 ·refine dn.2 fun i h1 M=>?_
  have hm:=h.mode;have hu:=h.uid;have B:=h.gid;have J:=h.time;have N:=h.body;obtain rfl|rfl|rfl|rfl|rfl:i=1∨i=2∨i=3∨i=4∨i=5:=by omega
  ·exact tq (n:=m.mode) hm.1 (by omega)
  ·show(dJ (if 2097151<m.uid then 0 else m.uid) 8).isSome=true
   split
   ·exact tq (by omega) (by omega)
   ·exact tq hu.1 (by omega)
  ·show(dJ (if 2097151<m.gid then 0 else m.gid) 8).isSome=true
   split
   ·exact tq (by omega) (by omega)
   ·exact tq B.1 (by omega)
  ·exact wL (n:=(m.body.length:Int)) (by omega) (by omega)
  ·show(dJ (if 8589934591<m.time then 0 else m.time) 12).isSome=true
   split
   ·exact wL (by omega) (by omega)
   ·exact wL J.1 (by omega)
theorem RO (name:List UInt8) (hn:name.length≤100) (hz:name.contains 0=false) (k:UInt8) (hk:k≠0) (n:Nat) (hs:n≤1048576):∃H,eI ⟨name,[],k,0,0,0,0,(n:Int),false⟩=some H∧H.length=512∧bG H=(⟨name,[],k,0,0,0,0,(n:Int),false⟩,0):=by
 refine I3 (by rw[lX hn];rfl) ?_ (dn.2 fun i h1 A=>?_)
 ·have:(k==0)=false:=beq_eq_false_iff_ne.2 hk
  simp only[gX,hz,this,List.length_nil,List.contains_nil,Bool.or_false];rfl
 ·obtain rfl|rfl|rfl|rfl|rfl:i=1∨i=2∨i=3∨i=4∨i=5:=by omega
  ·exact tq (n:=0) (by omega) (by omega)
  ·exact tq (n:=0) (by omega) (by omega)
  ·exact tq (n:=0) (by omega) (by omega)
  ·exact wL (n:=(n:Int)) (by omega) (by omega)
  ·exact wL (n:=0) (by omega) (by omega)
theorem qQ {n:Nat} (hs:n≤1048576):∃H,eI (tS n)=some H∧H.length=512∧bG H=(tS n,0):=RO ZZ (by decide) (by decide) 120 (by decide) n hs
theorem qF (i:Nat) (hi:i<6) (h1:aZ v=true) (h2:v.length≤200):iB (aB i) v=true:=by
 have hk:(aB i).contains 61=false∧(aB i).isEmpty=false∧aZ (aB i)=true∧(aB i).length≤8:=by
  obtain rfl|rfl|rfl|rfl|rfl|rfl:i=0∨i=1∨i=2∨i=3∨i=4∨i=5:=by omega
  all_goals exact⟨by decide,by decide,uL _ (by decide),by decide⟩
 obtain⟨A,B,D,E⟩:=hk;simp only[iB,A,B,D,h1,Bool.not_false,Bool.true_and,decide_eq_true_eq];omega
theorem ov (h0:0≤n) (h:n≤1099511627776):(ax n.toNat).length≤18:=gH _ 18 (by omega) (by omega)
theorem iH {m:aw} (h:dz m):∀r∈aT m,iB r.1 r.2=true:=by
 intro r hr;have hu:=h.uid;have A:=h.gid;have B:=h.time;simp only[aT,List.mem_append]at hr
 have d:∀(c:Prop) [Decidable c] (k v:List UInt8),r∈(if c then[(k,v)]else[])→r=(k,v):=fun c _ k v hr=>by
  split at hr
  ·exact List.mem_singleton.1 hr
  ·cases hr
 rcases hr with(((hr|hr)|hr)|hr)|hr<;>(have e:=d _ _ _ hr;subst e)
 ·exact qF 4 (by omega) h.Ul h.wJ
 ·exact qF 5 (by omega) h.Un h.DL
 ·exact qF 0 (by omega) (uS _) (by have:=ov hu.1 (by omega);show(ax _).length≤200;omega)
 ·exact qF 1 (by omega) (uS _) (by have:=ov A.1 (by omega);show(ax _).length≤200;omega)
 ·exact qF 2 (by omega) (uS _) (by have:=ov B.1 (by omega);show(ax _).length≤200;omega)
theorem po {l:cH} (h:∀r∈l,iB r.1 r.2=true):di 5 9 (aM l)=(l,0):=by
 have:=GK 5 9 l [] [] h;rw[List.append_nil,List.nil_append,qU]at this;exact this
theorem vT {n:Nat}:∀{l:cH},(∀r∈l,iB r.1 r.2=true∧r.1.length+r.2.length≤n)→(aM l).length≤l.length*(n+10)
 |[],_=>by simp[aM]
 |r::l,h=>by
  have E:=vT fun x A=>h x (List.mem_cons_of_mem _ A)
  obtain⟨h1,D⟩:=h r (List.mem_cons_self ..);obtain⟨d,_,_,_,_,B,_,hlen⟩:=pF h1;have e:aM (r::l)=bI r.1 r.2++aM l:=by simp[aM]
  rw[e,Qf,hlen,List.length_cons,Nat.succ_mul];omega
theorem OT (c:Prop) [Decidable c] (k v q:List UInt8):aL (if c then[(k,v)]else[]) q=if c∧k=q then some v else none:=by
 by_cases h:c
 ·by_cases hk:k=q<;>simp[aL,h,hk]
 ·simp[aL,h]
theorem GJ (m:aw):aL (aT m) (aB 0)=(if 2097151<m.uid then some (ax m.uid.toNat)else none)∧aL (aT m) (aB 1)=(if 2097151<m.gid then some (ax m.gid.toNat)else none)∧
 aL (aT m) (aB 2)=(if 8589934591<m.time then some (ax m.time.toNat)else none)∧aL (aT m) (aB 3)=none∧aL (aT m) (aB 4)=(if ik m=true then some m.path else none)∧
 aL (aT m) (aB 5)=(if gP m=true then some m.target else none):=by
 unfold aT;simp only[oz,OT];have f:¬aB 1=aB 0:=by decide
 have L:¬aB 2=aB 0:=by decide
 have T:¬aB 4=aB 0:=by decide
 have Y:¬aB 5=aB 0:=by decide
 have A:¬aB 0=aB 1:=by decide
 have M:¬aB 2=aB 1:=by decide
 have U:¬aB 4=aB 1:=by decide
 have Z:¬aB 5=aB 1:=by decide
 have B:¬aB 0=aB 2:=by decide
 have H:¬aB 1=aB 2:=by decide
 have V:¬aB 4=aB 2:=by decide
 have b:¬aB 5=aB 2:=by decide
 have D:¬aB 0=aB 3:=by decide
 have I:¬aB 1=aB 3:=by decide
 have N:¬aB 2=aB 3:=by decide
 have W:¬aB 4=aB 3:=by decide
 have c:¬aB 5=aB 3:=by decide
 have E:¬aB 0=aB 4:=by decide
 have J:¬aB 1=aB 4:=by decide
 have O:¬aB 2=aB 4:=by decide
 have d:¬aB 5=aB 4:=by decide
 have G:¬aB 0=aB 5:=by decide
 have g:¬aB 1=aB 5:=by decide
 have R:¬aB 2=aB 5:=by decide
 have X:¬aB 4=aB 5:=by decide
 simp only[f,L,T,Y,A,M,U,Z,B,H,V,b,D,I,N,W,c,E,J,O,d,G,g,R,X,and_true,and_false,if_false];refine⟨?_,?_,?_,?_,?_,?_⟩
 ·by_cases h:2097151<m.uid<;>simp[h]
 ·by_cases h:2097151<m.gid<;>simp[h]
 ·by_cases h:8589934591<m.time<;>simp[h]
 ·simp
 ·simp
 ·by_cases h:gP m=true<;>simp[h]
def vq (F:List UInt8→Option (List UInt8)):Prop:=
 (∀i,1≤i→i<6→(F (aB i)).getD []=[])∧((F (aB 0)).getD []=[]∨∃n,dR ((F (aB 0)).getD [])=some n∧n<2147483648)
theorem KD:vq (aL []):=⟨fun i _ _=>rfl,.inl rfl⟩
def yb (F:List UInt8→Option (List UInt8)) (m:aw):Int:=
 if 2097151<m.uid then m.uid else if(F (aB 0)).getD []=[]then m.uid else(((dR ((F (aB 0)).getD [])).getD 0:Nat):Int)
def oa (F:List UInt8→Option (List UInt8)) (m:aw):aw:={m with uid:=yb F m}
theorem My (m:aw):oa (aL []) m=m:=by
 have:yb (aL []) m=m.uid:=by
  unfold yb;split
  ·rfl
  ·exact if_pos rfl
 unfold oa;rw[this]
theorem Th {m:aw} (hF:vq F) (h:dz m):0≤yb F m∧yb F m<2147483648:=by
 unfold yb;have:=h.uid;split
 ·exact this
 ·split
  ·exact this
  ·rename_i h1 A
   obtain⟨n,B,hl⟩:=hF.2.resolve_left A;rw[B];simp only[Option.getD_some];omega
theorem BU {m:aw} (hF:vq F) (h:dz m):
 cU F (aT m) (bF m)=(⟨m.path,m.target,m.kind,m.mode,yb F m,m.gid,m.time,(m.body.length:Int),false⟩,0):=by
 obtain⟨D,E,G,H,I,J⟩:=GJ m;obtain⟨f,f0⟩:=hF;have hu:=h.uid;have O:=h.gid;have R:=h.time
 have L:fh false (fa F (aT m) (aB 0)) (bF m).uid=some (yb F m):=by
  have e:(bF m).uid=if 2097151<m.uid then 0 else m.uid:=rfl
  unfold fa yb;rw[D,e]
  by_cases hc:2097151<m.uid
  ·simp only[if_pos hc]
   unfold fh;rw[if_neg (E8 _)];simp only[Bool.false_eq_true,if_false];rw[sr (by omega)];simp only[Option.map_some]
   congr 1
   show((m.uid.toNat:Nat):Int)=m.uid;omega
  ·simp only[if_neg hc]
   unfold fh
   by_cases A:(F (aB 0)).getD []=[]
   ·rw[if_pos A,if_pos A]
   ·rw[if_neg A,if_neg A]
    obtain⟨n,B,_⟩:=f0.resolve_left A;simp only[Bool.false_eq_true,if_false];rw[B];rfl
 have M:fh false (fa F (aT m) (aB 1)) (bF m).gid=some m.gid:=by
  have e:(bF m).gid=if 2097151<m.gid then 0 else m.gid:=rfl
  unfold fa;rw[E,e]
  by_cases hc:2097151<m.gid
  ·simp only[if_pos hc]
   unfold fh;rw[if_neg (E8 _)];simp only[Bool.false_eq_true,if_false];rw[sr (by omega)];simp only[Option.map_some]
   congr 1
   show((m.gid.toNat:Nat):Int)=m.gid;omega
  ·simp only[if_neg hc]
   unfold fh;rw[if_pos (f 1 (by omega) (by omega))]
 have N:fh true (fa F (aT m) (aB 2)) (bF m).time=some m.time:=by
  have e:(bF m).time=if 8589934591<m.time then 0 else m.time:=rfl
  unfold fa;rw[G,e]
  by_cases hc:8589934591<m.time
  ·simp only[if_pos hc]
   unfold fh;rw[if_neg (E8 _)];simp only[if_true];rw[Tb (by omega)];simp only[Option.map_some]
   congr 1
   show((m.time.toNat:Nat):Int)=m.time;omega
  ·simp only[if_neg hc]
   unfold fh;rw[if_pos (f 2 (by omega) (by omega))]
 have n3:fh false (fa F (aT m) (aB 3)) (bF m).size=some (m.body.length:Int):=by
  unfold fa;rw[H];unfold fh;rw[if_pos (f 3 (by omega) (by omega))];rfl
 have n4:aJ (fa F (aT m) (aB 4)) (bF m).name=m.path:=by
  have e:(bF m).name=if ik m then bz else m.path:=rfl
  unfold fa;rw[I,e]
  by_cases hc:ik m=true
  ·simp only[if_pos hc]
   unfold aJ;rw[if_neg h.ZY]
  ·simp only[if_neg hc]
   unfold aJ;rw[if_pos (f 4 (by omega) (by omega))]
 have n5:aJ (fa F (aT m) (aB 5)) (bF m).link=m.target:=by
  have e:(bF m).link=if gP m then bz else m.target:=rfl
  unfold fa;rw[J,e]
  by_cases hc:gP m=true
  ·simp only[if_pos hc]
   unfold aJ;rw[if_neg];intro e;rw[gP,e]at hc;simp[gm]at hc
  ·simp only[if_neg hc]
   unfold aJ;rw[if_pos (f 5 (by omega) (by omega))]
 unfold cU fN;simp only[L,M,N,n3,n4,n5];rfl
theorem CU {m:aw} (h:dz m) {s:RS} (hF:vq (aL s.dG)) (ho:s.own=aT m) (hn:s.name=none) (hl:s.link=none):
 qH (bF m) s=.ok ({oa (aL s.dG) m with body:=[]},(m.body.length:Int)):=by
 have A:=BU hF h;have e:({bF m with name:=s.name.getD (bF m).name,link:=s.link.getD (bF m).link}:aq)=bF m:=by rw[hn,hl];rfl
 have hu:=Th hF h
 have hm:fp m.mode (yb (aL s.dG) m) m.gid m.time=true:=by
  have h1:=h.mode;have E:=h.gid;have G:=h.time;simp only[fp,decide_eq_true_eq];omega
 unfold qH;simp only[ho,e,A]
 rw[if_neg (by simp),h.path,if_neg (by simp),hm,if_neg (by simp),if_neg (by rintro⟨hk,hd⟩;rw[h.Vy hk]at hd;exact hd rfl),if_neg (by rintro⟨hk,hd⟩;exact hd (h.sym hk)),
  if_neg (by rintro⟨hk,hd⟩;rw[h.file hk]at hd;exact hd rfl),if_neg (by have:=h.body;omega)]
 have B:(if m.kind=49 then(bU 9 6 m.target).1 else if m.kind=50 then m.target else[])=m.target:=by
  split
  ·rename_i hk
   rw[h.Vy hk]
  ·rename_i hk
   split
   ·rfl
   ·rename_i D
    exact(h.none (by rcases h.kind with e|e|e|e<;>simp_all)).symm
 rw[B];rfl
theorem Fy (hr:bG H=(h,0)):aA H 9=dq∨aA H 9=tH:=by
 unfold bG at hr;split at hr
 ·cases (Prod.mk.inj hr).2
 ·split at hr
  ·cases (Prod.mk.inj hr).2
  ·split at hr
   ·cases (Prod.mk.inj hr).2
   ·rename_i _ _ B
    by_cases h1:aA H 9=dq
    ·exact .inl h1
    ·by_cases A:aA H 9=tH
     ·exact .inr A
     ·exact absurd ⟨h1,A⟩ B
theorem zX (hr:bG H=(h,0)):eu H=false:=by
 cases A:eu H with
 |false=>rfl
 |true=>
  have hm:(117:UInt8)∈aA H 9∨(117:UInt8)∈aA H 9:=by
   rcases Fy hr with e|e<;>rw[e]<;>simp[dq,tH]
  have hm:(117:UInt8)∈H:=List.mem_of_mem_drop (List.mem_of_mem_take (hm.elim id id));rw[eu,List.all_eq_true]at A;exact absurd (A 117 hm) (by decide)
theorem xe (hL:512≤L.length) (hH:L.take 512=H) (hr:bG H=(h,0)) (s:RS):eK L s=if qx h.kind then j1 L h s else qG L h s:=by
 unfold eK;rw[if_neg (by omega),hH,zX hr,if_neg (by simp),hr,if_neg (by simp)]
theorem zv {X:List UInt8} (hH:H.length=512):(H++X).take 512=H:=by rw[←hH,List.take_left'];rfl
theorem WC (hH:H.length=512) (hr:bG H=(h,0)) (hk:h.kind=120) (hz:h.size=(body.length:Int)) (hb:body.length≤1048576) {rs:cH} (jk:di 5 9 body=(rs,0)) (rest:List UInt8) (s:RS) (hx:s.fx=false):
 eK (H++(fr body++rest)) s=.next (512+bg body.length) {s with fx:=true,own:=rs}:=by
 rw[xe (by rw[Qf];omega) (zv hH) hr,hk,if_pos (by decide),j1,hk,if_neg (by simp[hx]),hz,if_neg (by omega),yp H body rest hH (by omega)];simp only[jk];rfl
theorem ah6 {k:UInt8} (h:k=48∨k=49∨k=50∨k=53):qx k=false∧¬(k≠48∧k≠49∧k≠50∧k≠53):=by
 rcases h with e|e|e|e<;>rw[e]<;>exact⟨by decide,by decide⟩
theorem WB (hH:H.length=512) (hr:bG H=(h,0)) (hk:h.kind=48∨h.kind=49∨h.kind=50∨h.kind=53) {m:aw} {s:RS} (hm:qH h s=.ok (m,(body.length:Int))) (hb:body.length≤1048576) (rest:List UInt8) (ho:s.out.length<4096):
 eK (H++(fr body++rest)) s=.next (512+bg body.length) {s with out:=s.out++[{m with body:=body}],own:=[],name:=none,link:=none,fx:=false}:=by
 obtain⟨A,B⟩:=ah6 hk;rw[xe (by rw[Qf];omega) (zv hH) hr,A,if_neg (by simp),qG,if_neg (by omega),if_neg B,hm];simp only;rw[yp H body rest hH (by omega)]
theorem zt (h:L.length<512) (s:RS):eK L s=.fault 2:=by
 unfold eK;rw[if_pos h]
structure D9 (s:RS):Prop where
 own:s.own=[]
 name:s.name=none
 link:s.link=none
 fx:s.fx=false
theorem xb:D9 iK:=⟨rfl,rfl,rfl,rfl⟩
def nB (s:RS) (ms:List aw):RS:={s with out:=s.out++ms}
theorem wC {s:RS} (h:D9 s) (ms:List aw):D9 (nB s ms):=⟨h.own,h.name,h.link,h.fx⟩
theorem uO {s:RS} (h:D9 s) (ms:List aw):({s with out:=s.out++ms,own:=[],name:=none,link:=none,fx:=false}:RS)=nB s ms:=by
 obtain⟨h1,A,B,D⟩:=h
 cases s
 simp only at h1 A B D;subst h1;subst A;subst B;subst D;rfl
theorem Ha (F:List UInt8→Option (List UInt8)) (m:aw):({({oa F m with body:=[]}:aw)with body:=m.body}:aw)=oa F m:=rfl
theorem yP {l:cH} (hm:∀r∈l,iB r.1 r.2=true) (h:aM l=[]):l=[]:=by
 have h1:=po hm;rw[h]at h1;have A:di 5 9 []=([],0):=rfl;rw[A]at h1;exact(Prod.mk.inj h1).1.symm
theorem jT {m:aw} (h:dz m):(aM (aT m)).length≤1048576:=by
 have h1:=iH h
 have B:(aT m).length≤5:=by
  have d:∀(c:Prop) [Decidable c] (k v:List UInt8),(if c then[(k,v)]else[]).length≤1:=fun c _ k v=>by split<;>simp
  simp only[aT,Qf];have d1:=d (ik m=true) (aB 4) m.path;have d2:=d (gP m=true) (aB 5) m.target;have d3:=d (2097151<m.uid) (aB 0) (ax m.uid.toNat);have d4:=d (2097151<m.gid) (aB 1) (ax m.gid.toNat);have d5:=d (8589934591<m.time) (aB 2) (ax m.time.toNat);omega
 have D:=vT (n:=100000) fun r A=>⟨h1 r A,(lF (h1 r A)).2.2.2.2⟩
 have E:(aT m).length*(100000+10)≤5*(100000+10):=Nat.mul_le_mul_right _ B;omega
theorem lJ {m:aw} (h:dz m):∃H,eI (bF m)=some H∧H.length=512∧bG H=(bF m,0)∧
 ((aT m=[]∧fu m=H++fr m.body)∨∃X,eI (tS (aM (aT m)).length)=some X∧X.length=512∧bG X=(tS (aM (aT m)).length,0)∧fu m=X++fr (aM (aT m))++(H++fr m.body)):=by
 obtain⟨H,h1,B,D⟩:=rK h;refine⟨H,h1,B,D,?_⟩
 by_cases hl:aM (aT m)=[]
 ·refine .inl ⟨yP (iH h) hl,?_⟩
  rw[fu,if_pos hl,h1];rfl
 ·obtain⟨X,A,E,G⟩:=qQ (jT h)
  refine .inr ⟨X,A,E,G,?_⟩;rw[fu,if_neg hl,h1,A];rfl
theorem zc {m:aw} (h:dz m) (hH:H.length=512) (hr:bG H=(bF m,0)) {s:RS} (hF:vq (aL s.dG)) (ho:s.own=aT m) (hn:s.name=none) (hl:s.link=none) (hs:s.out.length<4096) (rest:List UInt8) (at_:Nat):
 cj (H++(fr m.body++rest)) at_ s=cj rest (at_+(512+bg m.body.length)) {s with out:=s.out++[oa (aL s.dG) m],own:=[],name:=none,link:=none,fx:=false}:=by
 rw[fU (WB hH hr h.kind (CU h hF ho hn hl) h.body rest hs),B8 H m.body rest hH,Ha]
theorem PL {m:aw} (h:dz m) {s:RS} (hs:D9 s) (hF:vq (aL s.dG)) (ho:s.out.length<4096) (rest:List UInt8) (at_:Nat):
 cj (fu m++rest) at_ s=cj rest (at_+(fu m).length) (nB s [oa (aL s.dG) m]):=by
 obtain⟨H,_,A,B,hl⟩:=lJ h;rcases hl with⟨hr,e⟩|⟨X,_,x2,x3,e⟩
 ·have hlen:(fu m).length=512+bg m.body.length:=by rw[e,Qf,A,bu]
  rw[hlen,e,List.append_assoc,zc h A B hF (by rw[hs.own,hr]) hs.name hs.link ho,uO hs]
 ·have hlen:(fu m).length=512+bg (aM (aT m)).length+(512+bg m.body.length):=by
   rw[e,Qf,Qf,Qf,A,x2,bu,bu]
  rw[hlen,e,List.append_assoc,List.append_assoc,fU (WC x2 x3 rfl rfl (jT h) (po (iH h)) _ s hs.fx),B8 X _ _ x2,List.append_assoc,
   zc (s:={s with fx:=true,own:=aT m}) h A B hF rfl hs.name hs.link ho,Nat.add_assoc]
  congr 1
  exact uO hs _
def bE (ms:List aw):List UInt8:=(ms.map fu).flatten
theorem fK (m:aw) (ms:List aw):bE (m::ms)=fu m++bE ms:=by simp[bE]
theorem th (a b:List aw):bE (a++b)=bE a++bE b:=by simp[bE]
theorem lr (ms:List aw):sC ms=bE ms++List.replicate 1024 0:=rfl
theorem F6 (s:RS) (a b:List aw):nB (nB s a) b=nB s (a++b):=by simp[nB]
theorem wD (s:RS) (a:List aw):(nB s a).dG=s.dG:=rfl
theorem yS (s:RS) (a:List aw):(nB s a).out=s.out++a:=rfl
theorem Ds:∀(ms:List aw) {s:RS} (hs:D9 s) (hF:vq (aL s.dG)) (h:∀m∈ms,dz m) (ho:s.out.length+ms.length≤4096) (rest:List UInt8) (at_:Nat),
 cj (bE ms++rest) at_ s=cj rest (at_+(bE ms).length) (nB s (ms.map (oa (aL s.dG))))
 |[],s,hs,hF,h,ho,rest,at_=>by simp[bE,nB]
 |m::ms,s,hs,hF,h,ho,rest,at_=>by
  have hl:s.out.length+(ms.length+1)≤4096:=ho
  rw[fK,List.append_assoc,PL (h m (List.mem_cons_self ..)) hs hF (by omega),
   Ds ms (wC hs _) (by rw[wD];exact hF) (fun x A=>h x (List.mem_cons_of_mem _ A)) (by rw[yS,Qf];simp only[List.length_cons,List.length_nil];omega),
   F6,wD,Qf,Nat.add_assoc]
  rfl
theorem tD (n:Nat):eu (List.replicate n 0)=true:=by
 rw[eu,List.all_eq_true];intro x A;rw[(List.mem_replicate.1 A).2];rfl
theorem Vc {s:RS} (hs:D9 s) (n:Nat) (hn:1024≤n) (at_:Nat):cj (List.replicate n 0) at_ s=(s.out,0,0):=by
 refine iQ ?_ at_;unfold eK
 rw[if_neg (by rw[List.length_replicate];omega),List.take_replicate,tD,if_pos rfl,if_neg (by rw[List.length_replicate];omega),List.drop_replicate,tD,if_neg (by simp),
  if_neg (by rw[hs.fx,hs.name,hs.link];simp)]
theorem xP (ms:List aw):ms.map (oa (aL []))=ms:=by
 have:oa (aL [])=id:=funext My;rw[this,List.map_id]
theorem LV {ms:List aw} (h:∀m∈ms,dz m) (hl:ms.length≤4096) (n:Nat):dv (sC ms++List.replicate n 0)=(ms,0,0):=by
 rw[dv,lr,List.append_assoc,List.replicate_append_replicate,Ds ms xb KD h (by show 0+ms.length≤4096;omega),Vc (wC xb _) _ (by omega),yS];show([]++ms.map (oa (aL [])),(0:Int),0)=_;rw[xP,List.nil_append]
theorem BT (h0:(fN V h).2=0):(fN V h).1.kind=h.kind:=by
 unfold fN at h0⊢;split
 ·rfl
 ·rename_i G
  exfalso;split at h0
  ·rename_i u g t s A B D E
   exact G u g t s A B D E
  ·simp at h0
theorem F2 {s:RS} {m:aw} (hm:qH h s=.ok (m,n)) (hk:¬(h.kind≠48∧h.kind≠49∧h.kind≠50∧h.kind≠53)) (ht:t.length≤n.toNat):bZ {m with body:=t}=true:=by
 unfold qH at hm;simp only at hm;generalize T:cU (aL s.dG) s.own {h with name:=s.name.getD h.name,link:=s.link.getD h.link}=a at hm;split at hm
 ·cases hm
 rename_i E;have E:a.2=0:=Decidable.of_not_not E
 have M:a.1.kind=h.kind:=by
  rw[←T]at E⊢;exact BT E
 split at hm
 ·cases hm
 rename_i hc;have hc:bU 9 6 a.1.name=((bU 9 6 a.1.name).1,0):=Prod.ext rfl (Decidable.of_not_not hc);split at hm
 ·cases hm
 rename_i N;split at hm
 ·cases hm
 rename_i hd;split at hm
 ·cases hm
 rename_i H;split at hm
 ·cases hm
 rename_i hf;split at hm
 ·cases hm
 rename_i hs
 cases hm
 have c1:=(pA 9 6 (by omega) (by omega) _ _ hc).1
 have k:a.1.kind=48∨a.1.kind=49∨a.1.kind=50∨a.1.kind=53:=by
  rw[M]
  by_cases A:h.kind=48
  ·exact .inl A
  by_cases B:h.kind=49
  ·exact .inr (.inl B)
  by_cases D:h.kind=50
  ·exact .inr (.inr (.inl D))
  by_cases I:h.kind=53
  ·exact .inr (.inr (.inr I))
  exact absurd ⟨A,B,D,I⟩ hk
 have G:fp a.1.mode a.1.uid a.1.gid a.1.time=true:=by simpa using N
 have J:a.1.kind=48∨t=[]:=by
  by_cases A:a.1.kind=48
  ·exact .inl A
  ·refine .inr (List.length_eq_zero_iff.1 ?_)
   have:a.1.size=0:=Decidable.of_not_not fun e=>hf ⟨A,e⟩
   rw[this]at ht
   simpa using ht
 have hlen:t.length≤1048576:=by omega
 have O:dW (bU 9 6 a.1.name).1=true:=by rw[dW,c1];simp
 have R:(a.1.kind==48||t==[])=true:=by rcases J with e|e<;>simp[e]
 simp only[bZ,O,G,hlen,decide_true,R,Bool.true_and]
 by_cases A:a.1.kind=48∨a.1.kind=53
 ·rw[if_pos A,if_neg (by rcases A with e|e<;>rw[e]<;>decide),if_neg (by rcases A with e|e<;>rw[e]<;>decide)]
  rfl
 ·rw[if_neg A]
  by_cases B:a.1.kind=49
  ·have L:bU 9 6 a.1.link=((bU 9 6 a.1.link).1,0):=Prod.ext rfl (Decidable.of_not_not fun e=>hd ⟨B,e⟩)
   rw[if_pos B,if_pos B,dW,(pA 9 6 (by omega) (by omega) _ _ L).1];simp
  ·have D:a.1.kind=50:=by
    rcases k with e|e|e|e
    ·exact absurd (.inl e) A
    ·exact absurd e B
    ·exact e
    ·exact absurd (.inr e) A
   rw[if_neg B,if_neg B,if_pos D,if_pos D];exact decide_eq_true (Decidable.of_not_not fun e=>H ⟨D,e⟩)
theorem xd {s:RS} (h:eK l s=.fault e):e≠0:=by
 unfold eK at h;split at h
 ·cases h;omega
 split at h
 ·split at h
  ·cases h;omega
  split at h
  ·cases h;omega
  split at h
  ·cases h;omega
  ·cases h
 split at h
 ·rename_i A
  cases h;exact A
 split at h
 ·unfold j1 at h
  split at h
  ·cases h;omega
  split at h
  ·cases h;omega
  split at h
  ·cases h;omega
  split at h
  ·cases h
  split at h
  ·cases h
  split at h
  ·rename_i A
   cases h;exact A
  split at h<;>cases h
 ·unfold qG at h
  split at h
  ·cases h;omega
  split at h
  ·cases h;omega
  split at h
  ·rename_i B hm
   cases h
   unfold qH at hm;simp only at hm;split at hm
   ·rename_i A;cases hm;exact A
   split at hm
   ·rename_i A;cases hm;exact A
   split at hm
   ·cases hm;omega
   split at hm
   ·rename_i A;cases hm;exact A.2
   split at hm
   ·rename_i A;cases hm;exact A.2
   split at hm
   ·cases hm;omega
   split at hm
   ·cases hm;omega
   ·cases hm
  split at h
  ·cases h;omega
  ·cases h
theorem lU (n:Nat):bg n % 512=0:=Nat.mul_mod_left _ _
theorem G2 {s s':RS} (h:eK l s=.next k s') (hg:∀m∈s.out,bZ m=true):k % 512=0∧∀m∈s'.out,bZ m=true:=by
 unfold eK at h;split at h
 ·cases h
 split at h
 ·split at h
  ·cases h
  split at h
  ·cases h
  split at h<;>cases h
 split at h
 ·cases h
 split at h
 ·unfold j1 at h
  split at h
  ·cases h
  split at h
  ·cases h
  split at h
  ·cases h
  rename_i t k' A;have hk:=(lV A).1;have A:=lU (bG (l.take 512)).1.size.toNat;split at h
  ·cases h;exact⟨by omega,hg⟩
  split at h
  ·cases h;exact⟨by omega,hg⟩
  split at h
  ·cases h
  split at h<;>(cases h;exact⟨by omega,hg⟩)
 ·unfold qG at h
  split at h
  ·cases h
  split at h
  ·cases h
  rename_i B;split at h
  ·cases h
  rename_i m n hm;split at h
  ·cases h
  rename_i t k' A;obtain⟨hk,_,D,_⟩:=lV A;have A:=lU n.toNat
  cases h
  refine⟨by omega,fun x hx=>?_⟩;rcases List.mem_append.1 hx with hx|hx
  ·exact hg x hx
  ·rw[List.mem_singleton.1 hx]
   exact F2 hm B (by rw[D,Qg];omega)
theorem GD (N:Nat):∀(l:List UInt8) (at_:Nat) (s:RS),l.length≤N→at_ % 512=0→(∀m∈s.out,bZ m=true)→∀ms e a,cj l at_ s=(ms,e,a)→
 (e≠0∧ms=[]∧a≤at_+l.length∧a % 512=0)∨(e=0∧a=0∧∀m∈ms,bZ m=true):=by
 induction N with
 |zero=>
  intro l at_ s hl A B ms e a h;rw[fC (zt (by omega) s)]at h
  cases h
  exact .inl ⟨by omega,rfl,by omega,A⟩
 |succ N ih=>
  intro l at_ s hl A B ms e a h
  cases hs:eK l s with
  |fault f=>
   rw[fC hs]at h
   cases h
   exact .inl ⟨xd hs,rfl,by omega,A⟩
  |done=>
   rw[iQ hs]at h
   cases h
   exact .inr ⟨rfl,rfl,B⟩
  |next k I=>
   rw[fU hs]at h;obtain⟨E,G⟩:=lN hs;obtain⟨H,D⟩:=G2 hs B;rcases ih _ _ _ (by rw[Qe];omega) (by omega) D _ _ _ h with⟨r1,r2,r3,r4⟩|r
   ·rw[Qe]at r3
    exact .inl ⟨r1,r2,by omega,r4⟩
   ·exact .inr r
theorem we {ms:List aw} {a:Nat} (h:dv b=(ms,e,a)):(e≠0∧ms=[]∧a≤b.length∧a % 512=0)∨(e=0∧a=0∧∀m∈ms,bZ m=true):=by
 have:=GD b.length b 0 iK (Qk _) rfl (fun m hm=>by cases hm) ms e a h
 rwa [Nat.zero_add]at this
theorem Dw {R T:Int} {k:List UInt8} {m:Nat} (h:eA R T l=.ok (k,v,m)):k.length+v.length≤l.length:=by
 unfold eA at h;split at h
 ·cases h
 ·split at h
  ·cases h
  ·dsimp only at h
   split at h
   ·cases h
   ·split at h
    ·cases h
    ·cases h
     simp only[Qg,Qe];omega
theorem GI (R T:Int) (L:Nat):∀(n:Nat) (l:List UInt8) (acc:cH),l.length≤L→(∀r∈acc,r.1.length+r.2.length≤L)→acc.length+l.length≤L→(∀r∈(iG R T n l acc).1,r.1.length+r.2.length≤L)∧(iG R T n l acc).1.length≤L:=by
 intro n
 induction n with
 |zero=>intro l acc h1 A B;exact⟨A,by simp only[iG];omega⟩
 |succ n ih=>
  intro l acc h1 A B;rw[iG]
  by_cases hl:l=[]
  ·rw[if_pos hl];exact⟨A,by simp only;omega⟩
  ·rw[if_neg hl]
   cases hs:eA R T l with
   |error e=>exact⟨fun r hr=>by simp at hr,by simp⟩
   |ok x=>
    obtain⟨k,v,m⟩:=x;have D:=nO hs;have E:=Dw hs;refine ih _ _ (by rw[Qe];omega) (fun r hr=>?_) (by rw[Qe,Qf,List.length_singleton];omega);rcases List.mem_append.1 hr with hr|hr
    ·exact A r hr
    ·rw[List.mem_singleton]at hr
     subst hr;show k.length+v.length≤L;omega
theorem rX (R T:Int) (l:List UInt8):(∀r∈(di R T l).1,r.1.length+r.2.length≤l.length)∧(di R T l).1.length≤l.length:=
 GI R T l.length l.length l [] (Qk _) (fun r A=>by simp at A) (by simp)
theorem pQ (l:List UInt8):(aK l).length≤l.length:=(List.takeWhile_sublist _).length_le
theorem Tk (bs:List UInt8) (i:Nat):0≤eL bs i:=by
 unfold eL
 cases h:bM (aA bs i)with
 |none=>exact Int.le_refl _
 |some r=>exact(Lu h).1
theorem rF (bs:List UInt8) (i:Nat):(aA bs i).length≤aj i:=by
 unfold aA;rw[Qg];omega
theorem np (bs:List UInt8):0≤(bG bs).1.size∧(bG bs).1.name.length≤1000∧(bG bs).1.link.length≤1000:=by
 unfold bG;split
 ·exact⟨by decide,by decide,by decide⟩
 ·split
  ·exact⟨by decide,by decide,by decide⟩
  ·split
   ·exact⟨by decide,by decide,by decide⟩
   ·split
    ·refine⟨Tk bs 4,?_,?_⟩
     ·show(lG _ _ _).length≤1000
      have h1:=pQ (aA bs 10);have D:=pQ (aA bs 0);have A:=rF bs 10;have E:=rF bs 0;have B:aj 10≤400:=by decide
      have G:aj 0≤400:=by decide
      unfold lG;split
      ·omega
      ·simp only[Qf,List.length_cons];omega
     ·show(aK _).length≤1000
      have h1:=pQ (aA bs 8);have A:=rF bs 8;have B:aj 8≤400:=by decide
      omega
    ·exact⟨by decide,by decide,by decide⟩
theorem J6 (L:Nat) (hV:∀i,i<6→(V i).length≤L) (h0:0≤h.size) (h1:h.name.length≤L) (h2:h.link.length≤L):0≤(fN V h).1.size∧(fN V h).1.name.length≤L∧(fN V h).1.link.length≤L:=by
 unfold fN;split
 ·rename_i u g t s B D E A
  refine⟨?_,?_,?_⟩
  ·show 0≤s
   unfold fh at A;split at A
   ·cases A;exact h0
   ·simp only[Bool.false_eq_true,if_false]at A
    cases hw:dR (V 3)with
    |none=>rw[hw]at A;cases A
    |some n=>rw[hw]at A;cases A;exact Int.natCast_nonneg n
  ·show(aJ (V 4) h.name).length≤L
   unfold aJ;split
   ·exact h1
   ·exact hV 4 (by omega)
  ·show(aJ (V 5) h.link).length≤L
   unfold aJ;split
   ·exact h2
   ·exact hV 5 (by omega)
 ·exact⟨by decide,Nat.zero_le _,Nat.zero_le _⟩
theorem Ce {gs own:cH} {L:Nat} (h1:∀r∈gs,r.2.length≤L) (h2:∀r∈own,r.2.length≤L) (k:List UInt8):(fa (aL gs) own k).length≤L:=by
 unfold fa
 cases h:aL own k with
 |some v=>
  obtain⟨r,A,_,rfl⟩:=yN h;exact h2 r A
 |none=>
  cases B:aL gs k with
  |some v=>
   obtain⟨r,A,_,rfl⟩:=yN B
   simpa [B]using h1 r A
  |none=>simp
theorem FM (gs rs:cH):gQ (aL gs) rs=aL (gs++rs):=by rw[←wv,F4,wv]
theorem MC:eu l=true↔∀x,x<l.length→l.getD x 0=0:=by
 unfold eu;rw[List.all_eq_true];constructor
 ·intro h x A
  rw[List.getD,Qd A]
  simpa using h _ (List.getElem_mem A)
 ·intro h x A
  obtain⟨i,hi,rfl⟩:=List.getElem_of_mem A;have:=h i hi;rw[List.getD,Qd hi]at this
  simpa using this
theorem Dh (hl:l.length=512):(((bN l 512:Nat):Int)==0)=eu l:=by
 rw[Bool.eq_iff_iff,MC,hl];rw[←qR];simp
def tR:aw:=⟨[],[],0,0,0,0,0,[]⟩
def qm (kind:UInt8) (link:List UInt8):List UInt8 × Int:=if kind=49 then bU 9 6 link else if kind=50 then(link,dL 9 6 link)else([],0)
def qY (kind:UInt8) (n:Int):Int:=if kind≠48∧n≠0 then 4 else if 1048576<n then 10 else 0
def eF (h:aq):aw × Int:=
 if(bU 9 6 h.name).2≠0 then(tR,(bU 9 6 h.name).2)
 else if fp h.mode h.uid h.gid h.time=false then(tR,4)
 else if(qm h.kind h.link).2≠0 then(tR,(qm h.kind h.link).2)
 else if qY h.kind h.size≠0 then(tR,qY h.kind h.size)
 else(⟨(bU 9 6 h.name).1,(qm h.kind h.link).1,h.kind,h.mode,h.uid,h.gid,h.time,[]⟩,0)
def fv (h:aq) (s:RS):aq:={h with name:=s.name.getD h.name,link:=s.link.getD h.link}
theorem Ph (h:aq) (s:RS):qH h s=
 if(cU (aL s.dG) s.own (fv h s)).2≠0 then .error (cU (aL s.dG) s.own (fv h s)).2
 else if(eF (cU (aL s.dG) s.own (fv h s)).1).2≠0 then .error (eF (cU (aL s.dG) s.own (fv h s)).1).2
 else .ok ((eF (cU (aL s.dG) s.own (fv h s)).1).1,(cU (aL s.dG) s.own (fv h s)).1.size):=by
 unfold qH fv
 dsimp only
 generalize cU (aL s.dG) s.own _=a
 by_cases h1:a.2≠0
 ·rw[if_pos h1,if_pos h1]
 ·rw[if_neg h1,if_neg h1]
  unfold eF
  by_cases H:(bU 9 6 a.1.name).2≠0
  ·simp only[if_pos H]
  ·simp only[if_neg H]
   by_cases I:fp a.1.mode a.1.uid a.1.gid a.1.time=false
   ·simp only[if_pos I];rfl
   ·simp only[if_neg I]
    unfold qm qY
    by_cases D:a.1.kind=49
    ·have E:¬a.1.kind=50:=by rw[D];decide
     have G:a.1.kind≠48:=by rw[D];decide
     by_cases B:(bU 9 6 a.1.link).2=0
     ·by_cases A:a.1.size=0
      ·simp[D,B,A]
      ·simp[D,B,A]
     ·simp[D,B]
    ·by_cases E:a.1.kind=50
     ·by_cases B:dL 9 6 a.1.link=0
      ·by_cases A:a.1.size=0
       ·simp[E,B,A]
       ·simp[E,B,A]
      ·simp[E,B]
     ·by_cases G:a.1.kind=48
      ·by_cases J:1048576<a.1.size
       ·simp[G,J]
       ·simp[G,J]
      ·by_cases A:a.1.size=0
       ·simp[D,E,G,A]
       ·simp[D,E,G,A]
def gO (k:UInt8):Bool:=k==48||k==49||k==50||k==53
def me (m:aw):aq:=⟨m.path,m.target,m.kind,m.mode,m.uid,m.gid,m.time,(m.body.length:Int),false⟩
theorem NW (m:aw):bZ m=(gO m.kind&&decide ((eF (me m)).2=0)&&decide ((eF (me m)).1.path=m.path)&&decide ((eF (me m)).1.target=m.target)):=by
 rw[Bool.eq_iff_iff];unfold bZ gO eF me dW qm qY;simp only[Bool.and_eq_true,Bool.or_eq_true,decide_eq_true_eq,beq_iff_eq];obtain⟨⟨T,ce⟩,hc⟩:∃x,bU 9 6 m.path=x:=⟨_,rfl⟩
 obtain⟨⟨U,N⟩,hd⟩:∃x,bU 9 6 m.target=x:=⟨_,rfl⟩
 rw[hc,hd];have R:((m.body.length:Int)=0)↔m.body=[]:=by rw[←List.length_eq_zero_iff];omega
 have M:(1048576<(m.body.length:Int))↔1048576<m.body.length:=by omega
 have V:m.body=[]→¬1048576<m.body.length:=fun h=>by rw[h];simp
 simp only[Prod.mk.injEq,ne_eq,R,M]
 by_cases h1:ce=0
 ·by_cases J:fp m.mode m.uid m.gid m.time=false
  ·simp[h1,J,tR]
  ·have A:fp m.mode m.uid m.gid m.time=true:=by simpa using J
   by_cases H:m.kind=48
   ·by_cases L:1048576<m.body.length
    ·simp[h1,A,H,L]
     intro _ _;omega
    ·have O:m.body.length≤1048576:=by omega
     simp[h1,A,H,L,O,@eq_comm _ [] m.target]
   ·by_cases E:m.kind=49
    ·by_cases D:N=0
     ·by_cases B:m.body=[]
      ·simp[h1,A,E,D,B]
      ·simp[h1,A,E,D,B]
     ·simp[h1,A,E,D]
    ·by_cases G:m.kind=50
     ·by_cases D:dL 9 6 m.target=0
      ·by_cases B:m.body=[]
       ·simp[h1,A,G,D,B]
       ·simp[h1,A,G,D,B]
      ·simp[h1,A,G,D]
     ·by_cases I:m.kind=53
      ·by_cases B:m.body=[]
       ·simp[h1,A,I,B,@eq_comm _ [] m.target]
       ·simp[h1,A,I,B]
      ·simp[H,E,G,I]
 ·simp[h1]
end Mem
namespace Tre
open Mem
variable {a c:List UInt8}
def eH (a b:List UInt8):Bool:=Op.bytesLess a b
theorem AE (b:List UInt8):eH b []=false:=by cases b<;>rfl
theorem vW (a b:UInt8) (x y:List UInt8):eH (a::x) (b::y)=(decide (a<b)||(a==b&&eH x y)):=rfl
theorem ke (a:List UInt8):eH a a=false:=by
 induction a with
 |nil=>rfl
 |cons b l ih=>rw[vW,ih];simp
theorem iA (a:List UInt8):∀b c,eH a b=true→eH b c=true→eH a c=true:=by
 induction a with
 |nil=>intro b c h1 A
       cases c with
       |nil=>rw[AE]at A;cases A
       |cons c z=>rfl
 |cons a x ih=>
  intro b c h1 A
  cases b with
  |nil=>rw[AE]at h1;cases h1
  |cons b y=>
   cases c with
   |nil=>rw[AE]at A;cases A
   |cons c z=>
    rw[vW]at h1 A⊢;simp only[Bool.or_eq_true,decide_eq_true_eq,Bool.and_eq_true,beq_iff_eq]at h1 A⊢;rcases h1 with h1|⟨rfl,h1⟩
    ·rcases A with A|⟨rfl,A⟩
     ·exact .inl (UInt8.lt_trans h1 A)
     ·exact .inl h1
    ·rcases A with A|⟨rfl,A⟩
     ·exact .inl A
     ·exact .inr ⟨rfl,ih y z h1 A⟩
theorem IL (a:List UInt8):∀b,eH a b=false→eH b a=false→a=b:=by
 induction a with
 |nil=>
  intro b h1 A
  cases b with
  |nil=>rfl
  |cons b y=>exact absurd h1 (by simp[eH,Op.bytesLess])
 |cons a x ih=>
  intro b h1 A
  cases b with
  |nil=>exact absurd A (by simp[eH,Op.bytesLess])
  |cons b y=>
   rw[vW]at h1 A;simp only[Bool.or_eq_false_iff,decide_eq_false_iff_not]at h1 A
   have B:a=b:=by
    apply UInt8.le_antisymm
    ·exact UInt8.not_lt.1 A.1
    ·exact UInt8.not_lt.1 h1.1
   subst B;have D:eH x y=false:=by simpa using h1.2
   have E:eH y x=false:=by simpa using A.2
   rw[ih y D E]
theorem qE (h:eH a b=true):eH b a=false:=by
 cases A:eH b a with
 |false=>rfl
 |true=>have:=iA a b a h A;rw[ke]at this;cases this
theorem vX (h:eH a b=true):a≠b:=fun e=>by subst e;rw[ke]at h;cases h
theorem mq (h:eH a b=false) (cX:a≠b):eH b a=true:=by
 cases A:eH b a with
 |true=>rfl
 |false=>exact absurd (IL a b h A) cX
theorem AD (h:eH b a=false) (h2:eH b c=true):eH a c=true:=by
 by_cases e:a=b
 ·rw[e];exact h2
 ·exact iA a b c (mq h (fun x=>e x.symm)) h2
theorem AF (h:eH a b=true) (h2:eH c b=false):eH a c=true:=by
 by_cases e:b=c
 ·rw[←e];exact h
 ·exact iA a b c h (mq h2 (fun x=>e x.symm))
structure aC where
 path:List UInt8
 target:List UInt8
 ag:List UInt8
 kind:UInt8
 mode:Int
 uid:Int
 gid:Int
 time:Int
 body:List UInt8
deriving instance DecidableEq for aC
def cz:aC:=⟨[],[],[],0,0,0,0,0,[]⟩
def aC.mem (x:aC):aw:=⟨x.path,x.target,x.kind,x.mode,x.uid,x.gid,x.time,x.body⟩
def Xl (a b:aC):Bool:=decide (a.mem=b.mem)
theorem IW {a b:aC} (h:a.mem=b.mem) (hl:a.ag=b.ag):a=b:=by
 cases a;cases b
 simp only[aC.mem,aw.mk.injEq]at h
 simp_all
def jb (p:List UInt8) (m:aw) (l:List UInt8):aC:=⟨p,m.target,l,m.kind,m.mode,m.uid,m.gid,m.time,m.body⟩
def dy:aw:=⟨[],[],0,0,0,0,0,[]⟩
abbrev St:=List (List UInt8 × Nat)
def look (S:St) (p:List UInt8):Option Nat:=(S.find? fun e=>e.1==p).map (·.2)
def ki (S:St) (p:List UInt8) (n:Nat):St:=S.filter (fun e=>!(e.1==p))++[(p,n)]
def kZ (ms:List aw) (S:St) (i:Nat):Option St:=
 let m:=ms.getD i dy
 if m.kind=49 then
  match look S m.target with
  |none=>none
  |some n=>if(ms.getD n dy).kind=48 then some (ki S m.path n)else none
 else some (ki S m.path i)
def fA (ms:List aw):Nat→Except Nat St
 |0=>.ok []
 |k+1=>match fA ms k with
  |.error i=>.error i
  |.ok S=>match kZ ms S k with
   |none=>.error k
   |some S'=>.ok S'
def pg (T:St) (n:Nat):List UInt8:=((T.find? fun e=>e.2==n).map (·.1)).getD []
def td (ms:List aw) (T:St) (e:List UInt8 × Nat):aC:=
 jb e.1 (ms.getD e.2 dy) (if(ms.getD e.2 dy).kind=48 then pg T e.2 else[])
def O0 (a b:List UInt8 × Nat):Bool:=!eH b.1 a.1
def mL (S:St):St:=S.mergeSort O0
def nX (ms:List aw) (S:St):List aC:=(mL S).map (td ms (mL S))
def iX (ms:List aw):List aC × Int × Nat:=
 match ms.findIdx? (fun m=>!bZ m)with
 |some i=>([],1,i)
 |none=>match fA ms ms.length with
  |.error i=>([],7,i)
  |.ok S=>(nX ms S,0,0)
def ei (t:List aC) (p:List UInt8):Option aC:=t.find? fun x=>x.path==p
def FV (o:Option aC) (x:aC):Bool:=
 match o with
 |none=>false
 |some y=>decide (y.kind=48)&&(decide (y.ag=y.path)&&(decide (y.mode=x.mode∧y.uid=x.uid∧y.gid=x.gid∧y.time=x.time)&&decide (y.body=x.body)))
def jF (t:List aC) (x:aC):Bool:=
 if x.kind=48 then FV (ei t x.ag) x else decide (x.ag=[])
def fI (x:aC):Bool:=decide (x.kind≠49)&&bZ x.mem
def fk (t:List aC) (i:Nat):Bool:=
 let x:=t.getD i cz
 (fI x&&(decide (i=0)||eH (t.getD (i - 1) cz).path x.path))&&jF (t.take (i+1)) x
def cG (t:List aC):Bool:=decide (t.length≤4096)&&(List.range t.length).all (fk t)
def fM (t:List aC):Prop:=t.Pairwise fun a b=>eH a.path b.path=true
end Tre
namespace Mem
open Go.Lib Fp Hp Path Rec Attr
variable {m:aw}
theorem PF (h:dz m):(fu m).length % 512=0∧512+bg m.body.length≤(fu m).length:=by
 have D:=lU m.body.length;have hl:=lU (aM (aT m)).length;obtain⟨H,_,A,_,(⟨_,e⟩|⟨X,_,B,_,e⟩)⟩:=lJ h
 ·rw[e,Qf,bu,A];omega
 ·rw[e,Qf,Qf,Qf,bu,bu,A,B];omega
theorem LS (h:dz m):∃H,eI (bF m)=some H∧H.length=512∧
 ((aT m=[]∧fu m=H++fr m.body)∨(aT m≠[]∧∃X,eI (tS (aM (aT m)).length)=some X∧X.length=512∧fu m=X++fr (aM (aT m))++(H++fr m.body))):=by
 obtain⟨H,h1,D,_⟩:=rK h;refine⟨H,h1,D,?_⟩
 by_cases A:aT m=[]
 ·refine .inl ⟨A,?_⟩
  rw[fu,A,if_pos (show aM []=[]from rfl),h1];rfl
 ·obtain⟨X,B,E,_⟩:=qQ (jT h)
  refine .inr ⟨A,X,B,E,?_⟩;rw[fu,if_neg (fun e=>A (yP (iH h) e)),h1,B];rfl
def Gn (m:aw):Bool:=
 decide (m.path.length≤100)&&(decide (m.target.length≤100)&&(decide (m.uid≤2097151)&&(decide (m.gid≤2097151)&&(decide (m.time≤8589934591)&&(gm m.path&&gm m.target)))))
theorem Gp (h:Gn m=true):aT m=[]:=by
 unfold Gn at h;simp only[Bool.and_eq_true,decide_eq_true_eq]at h;obtain⟨h1,E,I,J,L,G,H⟩:=h;have B:ik m=false:=by unfold ik;rw[lX h1,G];rfl
 have D:gP m=false:=by
  unfold gP;rw[H]
  simpa using E
 unfold aT;rw[B,D];have A:¬2097151<m.uid:=by omega
 have a2:¬2097151<m.gid:=by omega
 have a3:¬8589934591<m.time:=by omega
 simp[A,a2,a3]
theorem Gz (h:dz m) (hp:Gn m=true):(fu m).length=512+bg m.body.length:=by
 have B:=Gp hp;obtain⟨H,_,A,_,_⟩:=lJ h
 have e:fu m=(eI (bF m)).getD []++fr m.body:=by
  unfold fu;rw[B,if_pos (show aM []=[]from rfl),List.nil_append]
 obtain⟨H,h1,A,_,_⟩:=lJ h;rw[e,h1,Qf,bu];show H.length+_=_;rw[A]
theorem Mi {s s':RS} (h:eK l s=.next k s') (hg:s.out.length≤4096):s'.out.length≤4096:=by
 unfold eK at h;split at h
 ·cases h
 ·split at h
  ·split at h
   ·cases h
   ·split at h
    ·cases h
    ·split at h<;>cases h
  ·split at h
   ·cases h
   ·split at h
    ·unfold j1 at h
     split at h
     ·cases h
     ·split at h
      ·cases h
      ·split at h
       ·cases h
       ·split at h
        ·cases h;exact hg
        ·split at h
         ·cases h;exact hg
         ·split at h
          ·cases h
          ·split at h<;>(cases h;exact hg)
    ·unfold qG at h
     split at h
     ·cases h
     ·split at h
      ·cases h
      ·split at h
       ·cases h
       ·split at h
        ·cases h
        ·cases h
         simp only[Qf,List.length_singleton];omega
theorem LW (N:Nat):∀(l:List UInt8) (at_:Nat) (s:RS),l.length≤N→s.out.length≤4096→(cj l at_ s).1.length≤4096:=by
 induction N with
 |zero=>
  intro l at_ s hl A;rw[fC (zt (by omega) s)];simp
 |succ N ih=>
  intro l at_ s hl A
  cases hs:eK l s with
  |fault f=>rw[fC hs];simp
  |done=>rw[iQ hs];exact A
  |next k E=>
   rw[fU hs];obtain⟨B,D⟩:=lN hs;exact ih _ _ _ (by rw[Qe];omega) (Mi hs A)
theorem xQ (b:List UInt8):(dv b).1.length≤4096:=LW b.length b 0 iK (Qk _) (by show(0:Nat)≤4096;omega)
end Mem
namespace Rec
open Go.ChangeShapes Go.WideShapes Go.ChangeAt Go.RowKit Go.Shelf Base cf cN Path Go.Lib
variable {w w':World}
def Need (w:World):Prop:=Path.Tabs w∧(∃tp p,w.var? Tryz.prog "strconv.ErrSyntax"=some #[.iface tp p])∧Lib.TabIs Tryz.prog w "internal/strconv.uint64pow10" .u64 Lib.pow10Tab
theorem zA {P:Program} {n:String} {cs:Array Value} (h:w.var? P n=some cs) (hb:Below w.heap.size w w'):w'.var? P n=some cs:=by
 unfold World.var? at h⊢
 cases A:P.globalNamed n with
 |none=>simp[A]at h
 |some g=>
  simp only[A,Option.bind_some]at h⊢
  have B:g<w.heap.size:=by
   rcases Nat.lt_or_ge g w.heap.size with h'|h'
   ·exact h'
   ·simp[Array.getElem?_eq_none h']at h
  rw[hb.block g B];exact h
theorem Need.below (h:Need w) (hb:Below w.heap.size w w'):Need w':=
 ⟨h.1.below hb,by obtain⟨B,p,A⟩:=h.2.1;exact⟨B,p,zA A hb⟩,zA h.2.2 hb⟩
theorem Need.A2 (h:Need w):Path.Tabs w:=h.1
end Rec
namespace Wr
open Go.ChangeShapes Go.WideShapes Go.ChangeAt Go.RowKit Base cf cN Mem Go.Lib
theorem ac0 (s:ByteArray) (k:Nat) (hk:k<s.size):s[k]=s.data.toList.getD k 0:=by
 have h:k<s.data.toList.length:=by simpa using hk
 rw[List.getD,Qd h];rfl
theorem LA (s:ByteArray) (w:World) (hm:s.size≤140737488351232):
 Calls Tryz.prog 122 #[.string s] w fun e w'=>e=.returned (.bool (gm s.data.toList))∧Below w.heap.size w w':=by
 have M:Hid (s.data.toList.length=s.size):=Qh (by simp);have J:Hid (∀pos,Below w.heap.size w (w.iter s pos)):=Qh (fun pos=>(Below.refl _ _).alloc (Qk _) _)
 go_enter Tryz.func122,Tryz.ntmps122
 go_wp2
 go_loopw [2] (fun r wr=>r=.bool false∧∃(pos:Nat),wr=w.iter s pos∧pos≤s.size∧Hid (∀x∈s.data.toList.take pos,x.toNat≤127)) (fun _ wr=>s.size - wr.iterPos w.heap.size)
 case atStart=>exact⟨rfl,0,rfl,Nat.zero_le _,Qh (by simp)⟩
 case round=>
  obtain⟨rfl,pos,rfl,V,N⟩:=hrel
  by_cases A:pos<s.size
  ·have B:pos<s.data.toList.length:=by rw[M.out];exact A
   have L:Hid ((s[pos]).toNat=(s.data.toList.getD pos 0).toNat):=Qh (by rw[ac0 s pos A])
   have R:Hid (s.data.toList.take (pos+1)=s.data.toList.take pos++[s.data.toList.getD pos 0]):=Qh (by
    rw[List.take_succ_eq_append_getElem B,List.getD,Qd B];rfl)
   have O:Hid (s.data.toList.getD pos 0∈s.data.toList):=Qh (by
    rw[List.getD,Qd B];exact List.getElem_mem B)
   by_cases I:(s[pos]).toNat<128
   ·have D:=fun ty=>run_next_ascii (P:=Tryz.prog) w s pos ty A I
    have H:¬(127:Int)<((s[pos]).toNat:Int):=by omega
    go_wp2;go_roundw
    case rel=>exact⟨rfl,pos+1,rfl,by omega,Qh (fun y hy=>by
     rw[R.out,List.mem_append]at hy;rcases hy with hy|hy
     ·exact N.out y hy
     ·simp only[List.mem_singleton]at hy
      subst hy;have T:=L.out
      omega)⟩
    case measure=>simp;omega
   ·have D:=fun ty=>run_next_any (P:=Tryz.prog) w s pos ty A
    have hd:=decode_high s pos A (by omega);obtain⟨r,k,G⟩:∃r k,Utf8.decode s pos=(r,k):=⟨_,_,rfl⟩
    rw[G]at hd;simp only[G]at D;obtain⟨U,_⟩:=hd;have H:(127:Int)<(r:Int):=by omega
    have E:Hid (gm s.data.toList=false):=Qh (by
     unfold gm;rw[Bool.eq_false_iff];intro h;have:=of_decide_eq_true (List.all_eq_true.1 h _ O.out);have T:=L.out
     omega)
    clear G;go_wp2;go_ret;rw[E.out];exact⟨rfl,J.out _⟩
  ·have D:=fun ty=>run_next_end (P:=Tryz.prog) w s pos ty A
   have E:Hid (gm s.data.toList=true):=Qh (by
    unfold gm;rw[List.all_eq_true];intro x I
    exact decide_eq_true (N.out x (by rw[List.take_of_length_le (by rw[M.out];omega)];exact I)))
   go_wp2;go_ret;rw[E.out];exact⟨rfl,J.out _⟩
end Wr
namespace Rec
open Go.ChangeShapes Go.WideShapes Go.ChangeAt Go.RowKit Go.Shelf Base cf cN Path Go.Lib
theorem ER (w:World) (k:Nat) (os:Array Obj):Below w.heap.size w (Sort.grow (w.drewN k) os):=
 ⟨rfl,rfl,rfl,by rw[Sort.size_grow];show w.heap.size≤w.heap.size+os.size;omega,fun j A=>by
  show(w.heap++os)[j]? =w.heap[j]?
  rw[Array.getElem?_append_left A]⟩
theorem Cz (m:Nat) (w:World) (hm:m≤9223372036854775807) (hN:Need w):
 Calls Tryz.prog 124 #[.int .i64 (m:Int)] w fun e w'=>e=.returned (.string (str (ax m)))∧Below w.heap.size w w':=by
 refine(Any.strconv_Itoa Tryz.OX (m:Int) (by omega) (by omega) w hN.2.2).mono ?_;rintro e w' ⟨rfl,k,os,rfl⟩;rw[KZ];exact⟨rfl,ER w k os⟩
theorem AM (m:Nat) (w:World) (h0:0<m) (hm:m≤1000000000000000) (hN:Need w):
 Calls Tryz.prog 156 #[.int .i64 (m:Int)] w fun e w'=>e=.returned (.string (str (ax (fw m))))∧Below w.heap.size w w':=by
 have J:=Qh (CL m h0);have l:=Qh hN;have Z:∀n,n<1000000000000000000→(ax n).length≤18:=fun n h=>gH n 18 (by omega) h
 have f:=Qh Z;have U:=Qh (gG m);have r:(m:Int)≤1000000000000000:=by omega
 have T:=Qh hm;clear hN Z hm h0
 go_enter Tryz.func156,Tryz.ntmps156
 go_wp2_with fail
 go_loopw [3] (fun s wr=>∃(S:ByteArray),s=.string S∧S.size≤18∧Hid (S=str []∨S=str (ax m)∨(S=str (ax (m+(ax m).length))∧(ax (m+(ax m).length)).length≠(ax m).length))∧Hid (Below w.heap.size w wr)) (fun s _=>match s with|.string b=>(if b.size=0 then 2 else if b.size=(ax m).length then 1 else 0)|_=>0)
 case atStart=>exact⟨str [],rfl,by rw[ak];simp,Qh (.inl rfl),Qh (Below.refl _ _)⟩
 case round=>
  obtain⟨S,rfl,N,c,G⟩:=hrel;obtain⟨d,hd⟩:∃d,S.size=d:=⟨_,rfl⟩
  have o:(d:Int)≤18:=by omega
  obtain⟨X,I⟩:∃X,X=str (ax (m+d)):=⟨_,rfl⟩
  have L:=Qh I
  have R:Hid (Calls Tryz.prog 124 #[.int .i64 ((m:Int)+(d:Int))] wr fun e w'=>e=.returned (.string X)∧Below wr.heap.size wr w'):=Qh (by
   have:=Cz (m+d) wr (by have:=T.out;omega) (l.out.below G.out);rw[I]
   rwa [show((m+d:Nat):Int)=(m:Int)+(d:Int) by omega]at this)
  have B:Hid (X.size=(ax (m+d)).length):=Qh (by rw[I,ak]);have M:Hid (X.size≤18):=Qh (by rw[B.out];exact f.out _ (by have:=T.out;omega));have W:=Qh hd;clear I N
  by_cases H:X.size=d
  ·have p:((X.size:Int)==(d:Int))=true:=by rw[H];simp
   have g:Hid (X=str (ax (fw m))):=Qh (by
    have D:=B.out;have t:=U.out;have A:=W.out;rw[L.out]
    congr 2
    rcases c.out with e|e|⟨e,ne⟩
    ·rw[e,ak]at A
     obtain rfl:d=0:=by simpa using A.symm
     rw[Nat.add_zero]at D;omega
    ·rw[e,ak]at A
     rw[H,←A]at D;rcases J.out with⟨l1,l2⟩|⟨l1,l2,l3⟩
     ·rw[l1,←A]
     ·exact absurd D.symm l2
    ·rw[e,ak]at A
     rcases J.out with⟨l1,l2⟩|⟨l1,l2,l3⟩
     ·exact absurd l2 ne
     ·rw[l1,←A])
   clear H;go_wp2_with fail;refine R.out.mono ?_;rintro e u ⟨rfl,E⟩;have O:=Qh (G.out.trans (E.mono G.out.size));clear E;go_wp2;go_ret;exact⟨by rw[g.out];rfl,O.out⟩
  ·have p:((X.size:Int)==(d:Int))=false:=by rw[beq_eq_false_iff_ne];omega
   have V:=Qh H
   have Y:Hid (S=str []∧X=str (ax m)∨S=str (ax m)∧(X=str (ax (m+(ax m).length))∧(ax (m+(ax m).length)).length≠(ax m).length)):=Qh (by
    have D:=B.out;have A:=W.out;rcases c.out with e|e|⟨e,ne⟩
    ·rw[e,ak]at A
     obtain rfl:d=0:=by simpa using A.symm
     exact .inl ⟨e,by rw[L.out,Nat.add_zero]⟩
    ·rw[e,ak]at A
     refine .inr ⟨e,by rw[L.out,A],?_⟩;rw[A,←D];exact V.out
    ·rw[e,ak]at A
     rcases J.out with⟨l1,l2⟩|⟨l1,l2,l3⟩
     ·exact absurd l2 ne
     ·rw[A]at l3
      exact absurd (D.trans l3) V.out)
   clear H;go_wp2_with fail;refine R.out.mono ?_;rintro e u ⟨rfl,E⟩;have O:=Qh (G.out.trans (E.mono G.out.size));clear E;go_wp2_with fail;go_roundw
   case rel=>exact⟨X,rfl,M.out,Qh (by
    rcases Y.out with⟨_,e⟩|⟨_,e⟩
    ·exact .inr (.inl e)
    ·exact .inr (.inr e)),O⟩
   case measure=>
    have t:=U.out;rcases Y.out with⟨e1,e2⟩|⟨e1,e2,ne⟩
    ·rw[e1,e2]
     simp only[ak,List.length_nil,if_true];rw[if_neg (by omega)];omega
    ·have q:=lz (show m≤m+(ax m).length by omega)
     rw[e1,e2];simp only[ak,if_true];rw[if_neg (by omega),if_neg ne,if_neg (by omega)];omega
end Rec
namespace Rec
open Go.ChangeShapes Go.WideShapes Go.ChangeAt Go.RowKit Go.Shelf Base cf cN Path rr Go.Lib
theorem LB (l:List UInt8) (w:World) (h1:1≤l.length) (h2:l.length≤7) (hN:Need w):
 Calls Tryz.prog 207 #[.string (str l),.int .i64 10,.int .i64 64] w fun e w'=>
  ∃(u:Nat) (x:Value),e=.returned (.tuple #[.int .u64 (u:Int),x])∧Below w.heap.size w w'∧
   ((l.all bL=true∧u=iL l∧x=.nilIface)∨(l.all bL=false∧u=0∧∃t y,x=.iface t y)):=by
 have A:=Lv l h1 (by omega);have hs:(str l).size=l.length:=ak l
 cases hd:l.all bL with
 |true=>
  rw[hd,if_pos rfl]at A;refine(Any.strconv_ParseUint_10_at64_ok Tryz.OY (str l) (by omega) (iL l) (by rw[aU];exact A) w).mono ?_;rintro e w' ⟨rfl,hw⟩;refine⟨iL l,.nilIface,rfl,?_,.inl ⟨rfl,rfl,rfl⟩⟩;rcases hw with rfl|rfl
  ·exact Below.refl _ _
  ·exact se w _ _
 |false=>
  rw[hd,if_neg (by simp)]at A;obtain⟨E,p,D⟩:=hN.2.1;refine(Any.strconv_ParseUint_10_at64_syntax_var Tryz.OY (str l) (by omega) (by rw[aU];exact A) E p w D).mono ?_;rintro e w' ⟨N,rfl,_,_,B⟩;exact⟨0,_,rfl,B,.inr ⟨rfl,rfl,_,_,rfl⟩⟩
theorem wO (p:Option Addr) (n c:Nat) (bs:List UInt8) (w:World) (hn:bs.length=n) (hm:n≤1000000000000) (h:cK w p n bs) (hN:Need w):
 Calls Tryz.prog 180 #[.slice p n c] w fun e w'=>e=.returned (xn (nD bs))∧Below w.heap.size w w':=by
 have mixed:Tryz.prog.follows .mixedOrders=true:=by kernel_rfl
 by_cases T:1≤n∧n≤7
 ·have hi:MV (n:Int) 1 7=true:=gN (by omega) (by omega)
  obtain⟨b,o,rfl,hc⟩:=h (by omega);have L:=hc 0 (by omega);rw[Nat.add_zero]at L;obtain⟨C,D⟩:∃C:Nat,(bs.getD 0 0).toNat=C:=⟨_,rfl⟩
  rw[D]at L;have U:(0:Int)<(n:Int):=by omega
  by_cases B:bs.getD 0 0=48
  ·have e:nD bs=none:=by unfold nD;rw[if_pos (.inr (.inr B))]
   rw[e];have R:((C:Int)==48)=true:=by rw[←D,B];rfl
   clear h hN hc B D e hn
   go_enter Tryz.func180,Tryz.ntmps180
   go_wp2_with (go_at_call 152;refine(mh _ _ _ _).mono ?_;rw[hi];rintro e N ⟨rfl,rfl⟩)
   go_ret2;exact⟨rfl,Below.refl _ _⟩
  ·have R:((C:Int)==48)=false:=by
    rw[beq_eq_false_iff_ne];intro e;refine B (UInt8.toNat_inj.1 ?_);rw[D];show C=48;omega
   have O:=Qh (LB bs w (by omega) (by omega) hN);have cs:=cw h hn 26 5 9 Tryz.underlying26 Tryz.underlying5 Tryz.underlying9 c
   have M:Hid (nD bs=if bs.all bL then some (iL bs)else none):=Qh (by
    unfold nD
    rw[if_neg (by
     rintro(e|e|e)
     ·omega
     ·omega
     ·exact B e)])
   have A:Hid (bs.all bL=true→iL bs<10000000):=Qh (fun hd=>by
    have V:=Jh bs (List.all_eq_true.1 hd);have W:10 ^ bs.length≤10 ^ 7:=Nat.pow_le_pow_right (by omega) (by omega);have X:(10:Nat) ^ 7=10000000:=by decide
    omega)
   clear h hN hc B D hn
   go_enter Tryz.func180,Tryz.ntmps180
   go_wp2_with (go_at_call 152;refine(mh _ _ _ _).mono ?_;rw[hi];rintro e N ⟨rfl,rfl⟩)
   rw[show(⟨bs.toArray⟩:ByteArray)=str bs from rfl]
   go_at_call 207
   refine O.out.mono ?_;rintro e Z ⟨u,x,rfl,H,(⟨hd,rfl,rfl⟩|⟨hd,rfl,t,y,rfl⟩)⟩
   ·have hu:=A.out hd
    have G:Hid (nD bs=some (iL bs)):=Qh (by rw[M.out,hd];rfl);obtain⟨u,E⟩:∃u,iL bs=u:=⟨_,rfl⟩
    rw[E]at hu G⊢;have Y:IntKind.i64.wrap (u:Int)=(u:Int):=by rw[IntKind.wrap_i64];omega
    have I:=Qh H;clear H hd E cs A;go_wp2_with fail
    go_quiet (fail)
    have J:=Qh (below_drewN I.out nq);go_wp2;go_ret2;rw[G.out];exact⟨rfl,J.out⟩
   ·have G:Hid (nD bs=none):=Qh (by rw[M.out,hd];rfl)
    have I:=Qh H;clear H hd cs A;go_wp2_with fail
    go_quiet (fail)
    have J:=Qh (below_drewN I.out nq);go_wp2;go_ret2;rw[G.out];exact⟨rfl,J.out⟩
 ·have hi:MV (n:Int) 1 7=false:=jR (by omega)
  have e:nD bs=none:=by unfold nD;rw[if_pos (by omega)]
  rw[e];clear h hN e hn T
  go_enter Tryz.func180,Tryz.ntmps180
  go_wp2_with (go_at_call 152;refine(mh _ _ _ _).mono ?_;rw[hi];rintro e N ⟨rfl,rfl⟩)
  go_ret2;exact⟨rfl,Below.refl _ _⟩
theorem Lh (w:World) (t:TypeId) (x:Int):(w.alloc (.cells #[.int .u8 x] t (1,2))).cell? ⟨w.heap.size,0,none⟩=some (.int .u8 x):=by
 rw[World.cell?_alloc_mark];rfl
theorem ym (b o n c b2:Nat) (bs:List UInt8) (w:World) (hn:bs.length=n) (hc:n≤c) (hm:n≤1000000000000) (h:cK w (some ⟨b,o,none⟩) n bs) (h2:w.cell? ⟨b2,0,none⟩=some (.int .u8 32)):
 Calls Tryz.prog 109 #[.slice (some ⟨b,o,none⟩) n c,.slice (some ⟨b2,0,none⟩) 1 1] w fun e w'=>e=.returned (Lib.cutV (some ⟨b,o,none⟩) n c 1 (Lib.indexByte bs 32))∧∃q,w'=w.drewN q:=by
 have B:bytesOf (nums bs)=bs:=jA bs
 have A:=Any.bytes_Index_one Tryz.kE.index b o n c b2 0 1 (nums bs) 32 w (by rw[eQ,hn]) (fun i hi=>by
  obtain⟨G,I,he,hcell⟩:=h (by omega)
  cases he
  rw[hcell i hi]
  simp[nums,List.getD,Qd (show i<bs.length by omega)]) h2
 rw[B,show(32:Int).toNat.toUInt8=32 from rfl]at A
 have D:0≤Lib.indexByte bs 32→Lib.indexByte bs 32+(1:Nat)≤n:=fun H=>by
  obtain⟨k,hk⟩:∃k:Nat,Lib.indexByte bs 32=k:=⟨(Lib.indexByte bs 32).toNat,by omega⟩
  have:=(Lib.indexByte_some hk).1;have E:=(List.getElem?_eq_some_iff.1 this).1;omega
 exact Any.bytes_Cut_of Tryz.kE (some ⟨b,o,none⟩) (some ⟨b2,0,none⟩) n c 1 1 (Lib.indexByte bs 32) w hc (Lib.indexByte_ge _ _) D (by omega) (A.mono fun e w' he=>⟨he.1,0,he.2⟩)
theorem RD (b o n c b2:Nat) (bs:List UInt8) (w:World) (hn:bs.length=n) (hc:n≤c) (hm:n≤1000000000000) (h:cK w (some ⟨b,o,none⟩) n bs) (h2:w.cell? ⟨b2,0,none⟩=some (.int .u8 32)) (hi:Lib.indexByte bs 32<0):
 Calls Tryz.prog 109 #[.slice (some ⟨b,o,none⟩) n c,.slice (some ⟨b2,0,none⟩) 1 1] w fun e w'=>e=.returned (.tuple #[.slice (some ⟨b,o,none⟩) n c,.slice none 0 0,.bool false])∧∃q,w'=w.drewN q:=by
 have:=ym b o n c b2 bs w hn hc hm h h2;unfold Lib.cutV at this
 rwa [if_neg (by omega)]at this
theorem ua (b o n c b2 i r:Nat) (bs:List UInt8) (w:World) (hn:bs.length=n) (hc:n≤c) (hm:n≤1000000000000) (h:cK w (some ⟨b,o,none⟩) n bs) (h2:w.cell? ⟨b2,0,none⟩=some (.int .u8 32)) (hi:Lib.indexByte bs 32=(i:Int)) (hr:n=i+1+r):
 Calls Tryz.prog 109 #[.slice (some ⟨b,o,none⟩) n c,.slice (some ⟨b2,0,none⟩) 1 1] w fun e w'=>∃q2 c2,e=.returned (.tuple #[.slice (some ⟨b,o,none⟩) i c,.slice q2 r c2,.bool true])∧r≤c2∧cK w' q2 r (bs.drop (i+1))∧∃q,w'=w.drewN q:=by
 refine(ym b o n c b2 bs w hn hc hm h h2).mono ?_;rintro e w' ⟨rfl,q,rfl⟩;unfold Lib.cutV;rw[if_pos (by omega),hi,Int.toNat_natCast];have hd:=h.drop (k:=i+1) (c:=c) (by omega) hc hn;rw[show n - (i+1)=r by omega]at hd;refine⟨_,c - (i+1),?_,by omega,hd.below (below_drewN (Below.refl _ _) q),q,rfl⟩;unfold Lib.fromV;rw[show n - (i+1)=r by omega]
def pB (r:Option (List UInt8 × Nat)):Value:=match r with
 |some (t,m)=>.tuple #[.string (str t),.int .i64 (m:Int),.bool true]
 |none=>.tuple #[.string ⟨#[]⟩,.int .i64 0,.bool false]
theorem GF (b o n c:Nat) (bs:List UInt8) (w:World) (hn:bs.length=n) (hc:n≤c) (hm:n≤1000000000000) (h:cK w (some ⟨b,o,none⟩) n bs) (hN:Need w):
 Calls Tryz.prog 140 #[.slice (some ⟨b,o,none⟩) n c] w fun e w'=>e=.returned (pB (qh bs))∧Below w.heap.size w w':=by
 have C5:=Lib.run_convert_bytes_const (P:=Tryz.prog) w 26 5 #[.int .u8 32] 1 1 Tryz.underlying26 Tryz.underlying5;obtain⟨wm,I⟩:∃wm,w.alloc (.cells #[.int .u8 32] 5 (1,2))=wm:=⟨_,rfl⟩
 have kW:Below w.heap.size w wm:=by rw[←I];exact(Below.refl _ _).alloc (Qk _) _
 have D:=Qh kW;have X:=Qh (by rw[←I];exact Lh w 5 32:wm.cell? ⟨w.heap.size,0,none⟩=some (.int .u8 32));have H:=Qh h;have p:=Qh hN;have L:=Qh hn;rw[show((#[.int .u8 32]:Array Value).size,(#[.int .u8 32]:Array Value).size+1)=(1,2)from rfl,I]at C5;clear kW h hN I
 by_cases d:Lib.indexByte bs 32<0
 ·have e:qh bs=none:=by unfold qh;rw[if_pos d]
  rw[e];have G:=Qh d;clear e d
  go_enter Tryz.func140,Tryz.ntmps140
  go_wp2_with fail
  refine(RD b o n c w.heap.size bs wm L.out hc hm (H.out.below D.out) X.out G.out).mono ?_;rintro e y ⟨rfl,q,rfl⟩;have A:=Qh (below_drewN D.out q);go_wp2
  go_ret3
  exact⟨rfl,A.out⟩
 ·obtain⟨i,hi⟩:∃i:Nat,Lib.indexByte bs 32=i:=⟨(Lib.indexByte bs 32).toNat,by omega⟩
  obtain⟨VM,_,_⟩:=uT bs i hi;obtain⟨r,g⟩:∃r,n=i+1+r:=⟨n - (i+1),by omega⟩
  have XG:(bs.take i).length=i:=by rw[Qg];omega
  have E:Hid (qh bs=match nD (bs.take i)with
   |none=>none
   |some m=>if m<i+4∨bs.length<m∨bs.getD (m - 1) 0≠10 then none else some ((bs.drop (i+1)).take (m - 1 - (i+1)),m)):=Qh (by
    unfold qh;rw[if_neg d,hi,Int.toNat_natCast]
    all_goals (cases nD (bs.take i)<;>rfl))
  have G:=Qh (And.intro hi g);have Y:=Qh XG;have am0:(i:Int)≤1000000000000:=by omega
  have an2:(r:Int)≤1000000000000:=by omega
  have O:Hid (i≤1000000000000∧i≤n):=Qh (by omega);clear hi d XG VM
  cases J:nD (bs.take i)with
  |none=>
   rw[J]at E
   have Z:Hid (∀w,cK w (some ⟨b,o,none⟩) i (bs.take i)→Need w→Calls Tryz.prog 180 #[.slice (some ⟨b,o,none⟩) i c] w fun e w'=>e=.returned (.tuple #[.int .i64 0,.bool false])∧Below w.heap.size w w'):=Qh (fun w h1 h2=>by
    have:=wO (some ⟨b,o,none⟩) i c (bs.take i) w Y.out O.out.1 h1 h2;rw[J]at this
    exact this)
   rw[E.out];clear J E g
   go_enter Tryz.func140,Tryz.ntmps140
   go_wp2_with fail
   refine(ua b o n c w.heap.size i r bs wm L.out hc hm (H.out.below D.out) X.out G.out.1 G.out.2).mono ?_;rintro e y ⟨q2,c2,rfl,_,_,q,rfl⟩;have A:=Qh (below_drewN D.out q);go_wp2_with fail;refine(Z.out _ ((H.out.take O.out.2).below A.out) (p.out.below A.out)).mono ?_;rintro e w2 ⟨rfl,B⟩;have M:=Qh (A.out.trans (B.mono A.out.size));clear B;go_wp2
   go_ret3
   exact⟨rfl,M.out⟩
  |some m=>
   have uh:=(yU J).2.2.2.2.2;rw[J]at E
   have Z:Hid (∀w,cK w (some ⟨b,o,none⟩) i (bs.take i)→Need w→Calls Tryz.prog 180 #[.slice (some ⟨b,o,none⟩) i c] w fun e w'=>e=.returned (.tuple #[.int .i64 (m:Int),.bool true])∧Below w.heap.size w w'):=Qh (fun w h1 h2=>by
    have:=wO (some ⟨b,o,none⟩) i c (bs.take i) w Y.out O.out.1 h1 h2;rw[J]at this
    exact this)
   have am6:(m:Int)<10000000:=by omega
   by_cases N:m<i+4∨n<m
   ·have T:MV ((m:Int) - (i:Int) - 1) 3 (r:Int)=false:=jR (by omega)
    have W:Hid (qh bs=none):=Qh (by
     rw[E.out];simp only
     rw[if_pos (by rw[L.out];rcases N with h|h;exact .inl h;exact .inr (.inl h))])
    rw[W.out];have u:=Qh T;clear J E g uh T N
    go_enter Tryz.func140,Tryz.ntmps140
    go_wp2_with fail
    refine(ua b o n c w.heap.size i r bs wm L.out hc hm (H.out.below D.out) X.out G.out.1 G.out.2).mono ?_;rintro e y ⟨q2,c2,rfl,_,_,q,rfl⟩;have A:=Qh (below_drewN D.out q);go_wp2_with fail;refine(Z.out _ ((H.out.take O.out.2).below A.out) (p.out.below A.out)).mono ?_;rintro e w2 ⟨rfl,B⟩;have M:=Qh (A.out.trans (B.mono A.out.size));clear B;go_wp2_with fail;refine(mh _ _ _ _).mono ?_;rw[u.out];rintro e w3 ⟨rfl,rfl⟩;go_wp2
    go_ret3
    exact⟨rfl,M.out⟩
   ·obtain⟨v,hv⟩:∃v,m=i+2+v:=⟨m - (i+2),by omega⟩
    have T:MV ((v:Int)+1) 3 (r:Int)=true:=gN (by omega) (by omega);have u:=Qh T;have aH:(m:Int) - (i:Int) - 1=(v:Int)+1:=by omega
    have hvr:(v:Int)<(r:Int):=by omega
    have R:Hid (v<r∧v≤r):=Qh (by omega);obtain⟨C,f⟩:∃C:Nat,(bs.getD (m - 1) 0).toNat=C:=⟨_,rfl⟩
    have HC:Hid (((bs.drop (i+1)).getD v 0).toNat=C):=Qh (by
     rw[←f,show m - 1=i+1+v by omega]
     simp[List.getD])
    have z:Hid ((bs.drop (i+1)).length=r):=Qh (by rw[Qe];omega)
    by_cases U:bs.getD (m - 1) 0=10
    ·have hb:((C:Int) != 10)=false:=by rw[←f,U];rfl
     have W:Hid (qh bs=some ((bs.drop (i+1)).take v,m)):=Qh (by
      rw[E.out];simp only
      rw[if_neg (by
       rw[L.out];rintro(h|h|h)
       ·exact N (.inl h)
       ·exact N (.inr h)
       ·exact h U),show m - 1 - (i+1)=v by omega])
     rw[W.out];clear J E g uh T N f U hv
     go_enter Tryz.func140,Tryz.ntmps140
     go_wp2_with fail
     refine(ua b o n c w.heap.size i r bs wm L.out hc hm (H.out.below D.out) X.out G.out.1 G.out.2).mono ?_;rintro e y ⟨q2,c2,rfl,iO,l,q,rfl⟩;have A:=Qh (below_drewN D.out q);have Qz:=Qh l;clear l;go_wp2_with fail;refine(Z.out _ ((H.out.take O.out.2).below A.out) (p.out.below A.out)).mono ?_;rintro e w2 ⟨rfl,B⟩;have M:=Qh (A.out.trans (B.mono A.out.size));have t:=Qh (Qz.out.below B);clear B;obtain⟨b3,o3,rfl,V⟩:=t.out (by have:=R.out;omega);have g0:=V v R.out.1;rw[HC.out]at g0;have cs:=cw (t.out.take R.out.2) (by rw[Qg,z.out];have:=R.out;omega) 26 5 9 Tryz.underlying26 Tryz.underlying5 Tryz.underlying9 c2;have XR:Hid ((⟨((bs.drop (i+1)).take v).toArray⟩:ByteArray)=str ((bs.drop (i+1)).take v)):=Qh rfl;clear V;go_wp2_with fail;refine(mh _ _ _ _).mono ?_;rw[u.out];rintro e w3 ⟨rfl,rfl⟩;go_wp2
     go_ret3
     exact⟨rfl,M.out⟩
    ·have hb:((C:Int) != 10)=true:=by
      have:¬C=10:=fun e=>U (UInt8.toNat_inj.1 (by rw[f,e];rfl))
      simp;omega
     have W:Hid (qh bs=none):=Qh (by
      rw[E.out];simp only
      rw[if_pos (.inr (.inr U))])
     rw[W.out];clear J E g uh T N f U hv
     go_enter Tryz.func140,Tryz.ntmps140
     go_wp2_with fail
     refine(ua b o n c w.heap.size i r bs wm L.out hc hm (H.out.below D.out) X.out G.out.1 G.out.2).mono ?_;rintro e y ⟨q2,c2,rfl,iO,l,q,rfl⟩;have A:=Qh (below_drewN D.out q);have Qz:=Qh l;clear l;go_wp2_with fail;refine(Z.out _ ((H.out.take O.out.2).below A.out) (p.out.below A.out)).mono ?_;rintro e w2 ⟨rfl,B⟩;have M:=Qh (A.out.trans (B.mono A.out.size));have t:=Qh (Qz.out.below B);clear B;obtain⟨b3,o3,rfl,V⟩:=t.out (by have:=R.out;omega);have g0:=V v R.out.1;rw[HC.out]at g0;clear V;go_wp2_with fail;refine(mh _ _ _ _).mono ?_;rw[u.out];rintro e w3 ⟨rfl,rfl⟩;go_wp2
     go_ret3
     exact⟨rfl,M.out⟩
end Rec
namespace Mem
open Go.ChangeShapes Go.WideShapes Go.ChangeAt Go.RowKit Hp Head Path Rec Attr Go.Lib
variable {m:aw}
theorem zw (h:dz m):m.target.length≤200:=by
 rcases h.kind with k|k|k|k
 ·rw[h.none (.inl k)];simp
 ·exact((qf 9 6 (by decide) (by decide) _ _).1 (h.Vy k)).2.2.2.2.2
 ·have:=h.sym k
  unfold dL at this;split at this
  ·cases this
  ·split at this
   ·cases this
   ·omega
 ·rw[h.none (.inr k)];simp
theorem wf_i64 (h0:0≤n) (h1:n≤9223372036854775807):(Lit.int .i64 n).wf=true:=by
 have A:IntKind.i64.min=-9223372036854775808:=rfl;have B:IntKind.i64.max=9223372036854775807:=rfl;simp only[Lit.wf,Bool.and_eq_true,decide_eq_true_eq];omega
theorem Ck (h:dz m):∀i,(Lit.int .i64 (ia (bF m) i)).wf=true:=by
 have h1:=h.mode;have A:=h.uid;have B:=h.gid;have D:=h.time;have E:=h.body;intro i;unfold ia bF;split
 ·exact wf_i64 (n:=m.mode) h1.1 (by omega)
 ·simp only;split<;>exact wf_i64 (by omega) (by omega)
 ·simp only;split<;>exact wf_i64 (by omega) (by omega)
 ·exact wf_i64 (n:=(m.body.length:Int)) (by omega) (by omega)
 ·simp only;split<;>exact wf_i64 (by omega) (by omega)
 ·exact wf_i64 (by omega) (by omega)
theorem vz (h:dz m):(bF m).name.length≤140737488351232∧(bF m).link.length≤140737488351232:=by
 have h1:=h.wJ;have A:=zw h;unfold bF;constructor
 ·simp only;split
  ·decide
  ·omega
 ·simp only;split
  ·decide
  ·omega
theorem I1 {n:Nat} (h:n≤1048576):∀i,(Lit.int .i64 (ia (tS n) i)).wf=true:=by
 intro i;unfold ia tS;split
 ·exact wf_i64 (n:=0) (by omega) (by omega)
 ·exact wf_i64 (n:=0) (by omega) (by omega)
 ·exact wf_i64 (n:=0) (by omega) (by omega)
 ·exact wf_i64 (n:=(n:Int)) (by omega) (by omega)
 ·exact wf_i64 (n:=0) (by omega) (by omega)
 ·exact wf_i64 (by omega) (by omega)
end Mem
end Go.Proofs.YtdhibldkldlfpaaGreatDoor
