/- Merged. -/
import Derived.Test.YtdhibldkldlfpaaGreatDoorEmitPacksX14
import Derived.Lib.AppendZerosOnto
namespace Go.Proofs.YtdhibldkldlfpaaGreatDoor
set_option linter.unusedVariables false
namespace cf
open Go.ChangeShapes Go.WideShapes Go.ChangeAt Go.RowKit Base Go.Lib
variable {P:Program} {w:World}
def xo (k:Nat):List Int:=List.replicate k 0
theorem Ba (k:Nat):(Builtin.zeroCells #[Value.int .u8 0] k).toList=(xo k).map (Value.int .u8):=by
 apply List.ext_getElem?;intro i;simp only[Builtin.zeroCells,xo,Array.toList_map,Array.toList_range,List.map_replicate,List.getElem?_map,List.getElem?_replicate,List.size_toArray,List.length_cons,List.length_nil,Nat.zero_add,Nat.mul_one,Nat.mod_one]
 by_cases h:i<k
 ·rw[List.getElem?_range h,if_pos h]
  rfl
 ·rw[if_neg h,List.getElem?_eq_none (by simpa using h)]
  rfl
theorem xV (base:Nat) (t tn ty e:TypeId) (i:TypeInfo) (kq kn:IntKind) (ht:P.underlying t=some (.slice e)) (KX:P.underlying tn=some (.int kn)) (hi:P.info? e=some i) (hz:i.zero=some (.int .u8 0))
 (eG:i.size=1) (qq:i.bytes=1) (v:Value) (n:Nat) (xs:List Int) (aH:w.ownsRow base e 1 v n (xs.map (Value.int .u8))) (k:Nat) (gA:n+k≤140737488351232) (dh:base≤w.heap.size):
 ∃v' w',(Builtin.append_ #[t,tn] ty #[v,.int kq k]).run P w=.ok v' w'∧w'.ownsRow base e 1 v' (n+k) ((xs++xo k).map (Value.int .u8))∧w.grownBy w' v.ownBlock∧dN w v v':=by
 have hw:IntKind.i64.wrap (k:Int)=k:=by rw[IntKind.wrap_i64];omega
 have R:¬((k:Int)<0):=by omega
 have G:¬(281474976710656<(k:Int)):=by omega
 have hlen:((xs++xo k).map (Value.int .u8)).length=(n+k)*1:=by
  have:=aH.1;rw[Qi,Qf,xo,List.length_replicate];rw[Qi]at this;omega
 have D:=Ba k
 have made:∀(old:Nat) (row:Option Nat),old<n+k→
  (w.drew.alloc (.cells ((xs.map (Value.int .u8)).toArray++Builtin.zeroCells #[Value.int .u8 0] k++Builtin.zeroCells #[Value.int .u8 0] (grownCap w (n+k) old e - (n+k))) e)).ownsRow base e 1 (.slice (some ⟨w.heap.size,0,none⟩) (n+k) (grownCap w (n+k) old e)) (n+k) ((xs++xo k).map (Value.int .u8))∧
  w.grownBy (w.drew.alloc (.cells ((xs.map (Value.int .u8)).toArray++Builtin.zeroCells #[Value.int .u8 0] k++Builtin.zeroCells #[Value.int .u8 0] (grownCap w (n+k) old e - (n+k))) e)) row:=by
  intro old row W;have O:=grownCap_ge w (n+k) old e;have E:grownCap w (n+k) old e≤maxLen:=grownCap_le_maxLen w (n+k) old e (by unfold maxLen;omega);have J:xs.length=n:=by have:=aH.1;rw[Qi]at this;omega
  refine⟨⟨hlen,.inr ⟨w.heap.size,_,_,rfl,dh,heap_alloc_new w.drew _,O,E,?_,?_⟩⟩,⟨rfl,rfl,rfl,by simp,fun j A _=>heap_alloc_old w.drew _ A⟩⟩
  ·simp only[Array.size_append,List.size_toArray,Qi,size_zeroCells,J,List.length_cons,List.length_nil]
   omega
  ·simp only[Array.toList_append,D,List.map_append]
   rw[Nat.mul_one,List.take_append_of_le_length (by rw[Qf,Qi,Qi,xo,List.length_replicate,J];omega),List.take_of_length_le (by rw[Qf,Qi,Qi,xo,List.length_replicate,J];omega)]
 by_cases L:k=0
 ·subst L
  have T:(Builtin.append_ #[t,tn] ty #[v,.int kq ((0:Nat):Int)]).run P w=.ok v w:=by
   rcases aH.2 with⟨rfl,rfl⟩|⟨g,cap,cur,rfl,_,_,Bi,_⟩
   ·simp[Builtin.append_,run_underlying ht,run_underlying KX,sizeOf,typeInfo,hi,asInt,asIntOf]
    have I:IntKind.i64.wrap 0=0:=hw;simp[I]
   ·simp[Builtin.append_,run_underlying ht,run_underlying KX,sizeOf,typeInfo,hi,asInt,asIntOf]
    have I:IntKind.i64.wrap 0=0:=hw;simp[I,Bi,storeCells]
  exact⟨v,w,T,by simpa [xo]using aH,World.grownBy.refl w _,dN.refl w v⟩
 ·have hk:0<k:=by omega
  rcases aH.2 with⟨rfl,rfl⟩|⟨g,cap,cur,rfl,hbg,hg,Bi,E,hcs,ID⟩
  ·have U:xs=[]:=List.eq_nil_of_length_eq_zero (by have:=aH.1;simpa using this)
   subst U;have B:=run_append_nil_zeros (P:=P) w t tn ty e i (.int .u8 0) kq kn ht KX hi hz k hk (by omega) (by omega) (by rw[qq];omega);obtain⟨m1,m2⟩:=made 0 (Value.ownBlock (.slice none 0 0)) (by omega);simp only[Nat.zero_add,List.map_nil,List.nil_append,Array.empty_append]at m1 m2⊢;exact⟨_,_,B,m1,m2,fun j A=>Or.inr (by simp[Value.ownBlock]at A;omega)⟩
  ·by_cases N:n+k≤cap
   ·have M:=run_storeCells_at P g n e ((xo k).map (Value.int .u8)) 0 cur w hg (by rw[Qi,xo,List.length_replicate,hcs];omega) (ints_oneCell .u8 _)
    simp only[Nat.add_zero]at M
    have B:(Builtin.append_ #[t,tn] ty #[.slice (some ⟨g,0,none⟩) n cap,.int kq (k:Int)]).run P w=.ok (.slice (some ⟨g,0,none⟩) (n+k) cap) (w.setRow g (cur.toList.take n++(xo k).map (Value.int .u8)++cur.toList.drop (n+((xo k).map (Value.int .u8)).length)).toArray):=by
     have V:¬(k=0):=L;have H:(Builtin.zeroCells (Value.int .u8 0).cells k).toList=(xo k).map (Value.int .u8):=D;simp[Builtin.append_,run_underlying ht,run_underlying KX,sizeOf,typeInfo,zeroValue,hi,hz,eG,qq,asInt,asIntOf,hw,R,G,V,N,Addr.add_lit,H,M]
    refine⟨_,_,B,⟨hlen,.inr ⟨g,cap,_,rfl,hbg,setRow_heap w g cur _ e _ hg,N,E,?_,?_⟩⟩,⟨rfl,rfl,rfl,by simp,fun j _ A=>setRow_other w g j _ (fun e=>A (by simp[Value.ownBlock,e]))⟩,fun j A=>Or.inl A⟩
    ·simp only[List.size_toArray,Qf,Qg,Qe,Array.length_toList,Qi,xo,List.length_replicate]
     omega
    ·rw[Nat.mul_one]at ID⊢
     rw[ID,List.map_append];simp only;rw[List.take_append_of_le_length (by have:=aH.1;rw[Qf,Qi,Qi,xo,List.length_replicate];rw[Qi]at this;omega),List.take_of_length_le (by have:=aH.1;rw[Qf,Qi,Qi,xo,List.length_replicate];rw[Qi]at this;omega)]
   ·have holds:∀j u,(xs.map (Value.int .u8))[j]? =some u→w.drew.cell? ((⟨g,0,none⟩:Addr).add j)=some u:=fun j u A=>aH.cells (g:=g) rfl j u A
    have hold:=run_firstCells_some (P:=P) w.drew i.size n ⟨g,0,none⟩ n cap (xs.map (Value.int .u8)) (by rw[eG];exact aH.1) holds;have B:=run_append_grow_zeros (P:=P) w t tn ty e i (.int .u8 0) kq kn ht KX hi hz (some ⟨g,0,none⟩) n cap (xs.map (Value.int .u8)) hold k hk (by omega) (by omega) (by omega) (by rw[qq];omega) (growslice_fits (by omega) (by rw[qq];omega));obtain⟨m1,m2⟩:=made cap (Value.ownBlock (.slice (some ⟨g,0,none⟩) n cap)) (by omega);exact⟨_,_,B,m1,m2,fun j A=>Or.inr (by simp[Value.ownBlock]at A;omega)⟩
theorem lq {ops:Array Oper} {rest:List Oper} {o:Oper} {a:Act} {Q:Exit→Act→World→Prop} (o9:o.guard=none) (s x:Operand) (t tn:TypeId)
 (ho:o.op=.call {callee:=.builtin .append,args:=#[s,x],argTypes:=#[t,tn]})
 (base:Nat) (e:TypeId) (i:TypeInfo) (kq kn:IntKind) (ht:P.underlying t=some (.slice e)) (KX:P.underlying tn=some (.int kn)) (hi:P.info? e=some i) (hz:i.zero=some (.int .u8 0)) (eG:i.size=1) (qq:i.bytes=1)
 (v:Value) (n:Nat) (xs:List Int) (hs:a.eval s=v) (aH:w.ownsRow base e 1 v n (xs.map (Value.int .u8))) (K:Int) (k:Nat) (hx:a.eval x=.int kq K) (hK:K=(k:Int)) (gA:n+k≤140737488351232) (dh:base≤w.heap.size)
 (h:∀v' w',w'.ownsRow base e 1 v' (n+k) ((xs++xo k).map (Value.int .u8))→w.grownBy w' v.ownBlock→dN w v v'→wpList P ops Q rest (a.put o.dst v') w'):wpList P ops Q (o::rest) a w:=by
 subst hK;obtain⟨v',w',E,A,B,D⟩:=xV (P:=P) base t tn o.type e i kq kn ht KX hi hz eG qq v n xs aH k gA dh;exact Lib.wpList_append_run w o9 s x t tn ho v (.int kq k) hs hx v' w' E (h v' w' A B D)
end cf
end Go.Proofs.YtdhibldkldlfpaaGreatDoor
