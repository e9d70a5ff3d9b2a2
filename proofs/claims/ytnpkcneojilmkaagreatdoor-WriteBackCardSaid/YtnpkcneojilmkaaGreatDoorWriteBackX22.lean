/- Texts of this seat, merged: what the proof reaches. -/
import Derived.Test.YtnpkcneojilmkaaGreatDoorWriteBackX14
import Derived.Lib.AppendZerosOnto
section
namespace Go.Proofs.YtnpkcneojilmkaaGreatDoor.Byt
open Go.ChangeShapes Go.WideShapes Go.ChangeAt Go.RowKit Base Go.Lib
set_option linter.unusedVariables false
def zs8 (k:Nat):List Int:=List.replicate k 0
theorem zeroCells_u8 (k:Nat):(Builtin.zeroCells #[Value.int .u8 0] k).toList=(zs8 k).map (Value.int .u8):=by
 apply List.ext_getElem?;intro i;simp only [Builtin.zeroCells,zs8,Array.toList_map,Array.toList_range,List.map_replicate,List.getElem?_map,List.getElem?_replicate,List.size_toArray,List.length_cons,List.length_nil,Nat.zero_add,Nat.mul_one,Nat.mod_one]
 by_cases h:i < k
 ·rw [List.getElem?_range h,if_pos h]
  rfl
 ·rw [if_neg h,List.getElem?_eq_none (by simpa using h)]
  rfl
theorem run_zeros_own {P:Program} {w:World} (base:Nat) (t tn ty e:TypeId) (i:TypeInfo) (kq kn:IntKind) (ht:P.underlying t=some (.slice e)) (htn:P.underlying tn=some (.int kn)) (hi:P.info? e=some i) (hz:i.zero=some (.int .u8 0))
 (hsize:i.size=1) (hby:i.bytes=1) (v:Value) (n:Nat) (xs:List Int) (hown:w.ownsRow base e 1 v n (xs.map (Value.int .u8))) (k:Nat) (hsum:n+k≤140737488351232) (hbase:base≤w.heap.size) :
 ∃ v' w',(Builtin.append_ #[t,tn] ty #[v,.int kq k]).run P w=.ok v' w'∧w'.ownsRow base e 1 v' (n+k) ((xs++zs8 k).map (Value.int .u8))∧w.grownBy w' v.ownBlock∧NewOr w v v':=by
 have hw:IntKind.i64.wrap (k:Int)=k:=by rw [IntKind.wrap_i64];omega
 have hneg:¬ ((k:Int) < 0):=by omega
 have h48i:¬ (281474976710656 < (k:Int)):=by omega
 have hlen:((xs++zs8 k).map (Value.int .u8)).length=(n+k) * 1:=by
  have:=hown.1;rw [List.length_map,List.length_append,zs8,List.length_replicate];rw [List.length_map] at this;omega
 have hzc:=zeroCells_u8 k
 have made:∀ (old:Nat) (row:Option Nat),old < n+k →
  (w.drew.alloc (.cells ((xs.map (Value.int .u8)).toArray++Builtin.zeroCells #[Value.int .u8 0] k++Builtin.zeroCells #[Value.int .u8 0] (grownCap w (n+k) old e - (n+k))) e)).ownsRow base e 1 (.slice (some ⟨w.heap.size,0,none⟩) (n+k) (grownCap w (n+k) old e)) (n+k) ((xs++zs8 k).map (Value.int .u8)) ∧
  w.grownBy (w.drew.alloc (.cells ((xs.map (Value.int .u8)).toArray++Builtin.zeroCells #[Value.int .u8 0] k++Builtin.zeroCells #[Value.int .u8 0] (grownCap w (n+k) old e - (n+k))) e)) row:=by
  intro old row ho;have hge:=grownCap_ge w (n+k) old e;have hcm:grownCap w (n+k) old e≤maxLen:=grownCap_le_maxLen w (n+k) old e (by unfold maxLen;omega)
  have hxl:xs.length=n:=by have:=hown.1;rw [List.length_map] at this;omega
  refine ⟨⟨hlen,.inr ⟨w.heap.size,_,_,rfl,hbase,heap_alloc_new w.drew _,hge,hcm,?_,?_⟩⟩,⟨rfl,rfl,rfl,by simp,fun j hj _ => heap_alloc_old w.drew _ hj⟩⟩
  ·simp only [Array.size_append,List.size_toArray,List.length_map,size_zeroCells,hxl,List.length_cons,List.length_nil]
   omega
  ·simp only [Array.toList_append,hzc,List.map_append]
   rw [Nat.mul_one,List.take_append_of_le_length (by rw [List.length_append,List.length_map,List.length_map,zs8,List.length_replicate,hxl];omega),List.take_of_length_le (by rw [List.length_append,List.length_map,List.length_map,zs8,List.length_replicate,hxl];omega)]
 by_cases hk0:k=0
 ·subst hk0
  have hrun:(Builtin.append_ #[t,tn] ty #[v,.int kq ((0:Nat):Int)]).run P w=.ok v w:=by
   rcases hown.2 with ⟨rfl,rfl⟩ | ⟨g,cap,cur,rfl,_,_,hnc,_⟩
   ·simp [Builtin.append_,run_underlying ht,run_underlying htn,sizeOf,typeInfo,hi,asInt,asIntOf]
    have h0:IntKind.i64.wrap 0=0:=hw;simp [h0]
   ·simp [Builtin.append_,run_underlying ht,run_underlying htn,sizeOf,typeInfo,hi,asInt,asIntOf]
    have h0:IntKind.i64.wrap 0=0:=hw;simp [h0,hnc,storeCells]
  exact ⟨v,w,hrun,by simpa [zs8] using hown,World.grownBy.refl w _,NewOr.refl w v⟩
 ·have hk:0 < k:=by omega
  rcases hown.2 with ⟨rfl,rfl⟩ | ⟨g,cap,cur,rfl,hbg,hg,hnc,hcm,hcs,htake⟩
  ·have hx:xs=[]:=List.eq_nil_of_length_eq_zero (by have:=hown.1;simpa using this)
   subst hx;have hr:=run_append_nil_zeros (P:=P) w t tn ty e i (.int .u8 0) kq kn ht htn hi hz k hk (by omega) (by omega) (by rw [hby];omega)
   obtain ⟨m1,m2⟩:=made 0 (Value.ownBlock (.slice none 0 0)) (by omega)
   simp only [Nat.zero_add,List.map_nil,List.nil_append,Array.empty_append] at m1 m2 ⊢;exact ⟨_,_,hr,m1,m2,fun j hj => Or.inr (by simp [Value.ownBlock] at hj;omega)⟩
  ·by_cases hroom:n+k≤cap
   ·have hst:=run_storeCells_at P g n e ((zs8 k).map (Value.int .u8)) 0 cur w hg (by rw [List.length_map,zs8,List.length_replicate,hcs];omega) (ints_oneCell .u8 _)
    simp only [Nat.add_zero] at hst
    have hr:(Builtin.append_ #[t,tn] ty #[.slice (some ⟨g,0,none⟩) n cap,.int kq (k:Int)]).run P w=.ok (.slice (some ⟨g,0,none⟩) (n+k) cap) (w.setRow g (cur.toList.take n++(zs8 k).map (Value.int .u8)++cur.toList.drop (n+((zs8 k).map (Value.int .u8)).length)).toArray):=by
     have hks:¬ (k=0):=hk0;have hzc2:(Builtin.zeroCells (Value.int .u8 0).cells k).toList=(zs8 k).map (Value.int .u8):=hzc;simp [Builtin.append_,run_underlying ht,run_underlying htn,sizeOf,typeInfo,zeroValue,hi,hz,hsize,hby,asInt,asIntOf,hw,hneg,h48i,hks,hroom,Addr.add_lit,hzc2,hst]
    refine ⟨_,_,hr,⟨hlen,.inr ⟨g,cap,_,rfl,hbg,setRow_heap w g cur _ e _ hg,hroom,hcm,?_,?_⟩⟩,⟨rfl,rfl,rfl,by simp,fun j _ hj => setRow_other w g j _ (fun e => hj (by simp [Value.ownBlock,e]))⟩,fun j hj => Or.inl hj⟩
    ·simp only [List.size_toArray,List.length_append,List.length_take,List.length_drop,Array.length_toList,List.length_map,zs8,List.length_replicate]
     omega
    ·rw [Nat.mul_one] at htake ⊢
     rw [htake,List.map_append];simp only;rw [List.take_append_of_le_length (by have:=hown.1;rw [List.length_append,List.length_map,List.length_map,zs8,List.length_replicate];rw [List.length_map] at this;omega),List.take_of_length_le (by have:=hown.1;rw [List.length_append,List.length_map,List.length_map,zs8,List.length_replicate];rw [List.length_map] at this;omega)]
   ·have holds:∀ j u,(xs.map (Value.int .u8))[j]? = some u → w.drew.cell? ((⟨g,0,none⟩:Addr).add j)=some u:=fun j u hj => hown.cells (g:=g) rfl j u hj
    have hold:=run_firstCells_some (P:=P) w.drew i.size n ⟨g,0,none⟩ n cap (xs.map (Value.int .u8)) (by rw [hsize];exact hown.1) holds
    have hr:=run_append_grow_zeros (P:=P) w t tn ty e i (.int .u8 0) kq kn ht htn hi hz (some ⟨g,0,none⟩) n cap (xs.map (Value.int .u8)) hold k hk (by omega) (by omega) (by omega) (by rw [hby];omega) (growslice_fits (by omega) (by rw [hby];omega))
    obtain ⟨m1,m2⟩:=made cap (Value.ownBlock (.slice (some ⟨g,0,none⟩) n cap)) (by omega)
    exact ⟨_,_,hr,m1,m2,fun j hj => Or.inr (by simp [Value.ownBlock] at hj;omega)⟩
theorem append_zeros_new {P:Program} {w:World} {ops:Array Oper} {rest:List Oper} {o:Oper} {a:Act} {Q:Exit → Act → World → Prop} (hgd:o.guard=none) (s x:Operand) (t tn:TypeId)
 (ho:o.op=.call { callee:=.builtin .append,args:=#[s,x],argTypes:=#[t,tn] })
 (base:Nat) (e:TypeId) (i:TypeInfo) (kq kn:IntKind) (ht:P.underlying t=some (.slice e)) (htn:P.underlying tn=some (.int kn)) (hi:P.info? e=some i) (hz:i.zero=some (.int .u8 0)) (hsize:i.size=1) (hby:i.bytes=1)
 (v:Value) (n:Nat) (xs:List Int) (hs:a.eval s=v) (hown:w.ownsRow base e 1 v n (xs.map (Value.int .u8))) (K:Int) (k:Nat) (hx:a.eval x=.int kq K) (hK:K=(k:Int)) (hsum:n+k≤140737488351232) (hbase:base≤w.heap.size)
 (h:∀ v' w',w'.ownsRow base e 1 v' (n+k) ((xs++zs8 k).map (Value.int .u8)) → w.grownBy w' v.ownBlock → NewOr w v v' → wpList P ops Q rest (a.put o.dst v') w'):wpList P ops Q (o :: rest) a w:=by
 subst hK;obtain ⟨v',w',hr,h2,h3,h4⟩:=run_zeros_own (P:=P) base t tn o.type e i kq kn ht htn hi hz hsize hby v n xs hown k hsum hbase;exact Lib.wpList_append_run w hgd s x t tn ho v (.int kq k) hs hx v' w' hr (h v' w' h2 h3 h4)
end Go.Proofs.YtnpkcneojilmkaaGreatDoor.Byt
end
