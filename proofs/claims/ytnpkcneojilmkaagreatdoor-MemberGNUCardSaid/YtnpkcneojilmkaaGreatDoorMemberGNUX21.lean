/- Texts of this seat, merged: what the proof reaches. -/
import Derived.Test.YtnpkcneojilmkaaGreatDoorMemberGNUX14
import Derived.Lib.AppendZerosOnto
import Derived.Test.YtnpkcneojilmkaaGreatDoorMemberGNUX11
import Derived.Laws.IdiomCopy
section
namespace Go.Proofs.YtnpkcneojilmkaaGreatDoor.Byt
open Go.ChangeShapes Go.WideShapes Go.ChangeAt Go.RowKit Base Go.Lib
set_option linter.unusedVariables false
def zs8 (k:Nat):List Int:=List.replicate k 0
theorem zeroCells_u8 (k:Nat):(Builtin.zeroCells #[Value.int .u8 0] k).toList=(zs8 k).map (Value.int .u8):=by
 apply List.ext_getElem?;intro i;simp only [Builtin.zeroCells,zs8,Array.toList_map,Array.toList_range,List.map_replicate,List.getElem?_map,List.getElem?_replicate,List.size_toArray,List.length_cons,List.length_nil,Nat.zero_add,Nat.mul_one,Nat.mod_one]
 by_cases h:i < k
 ·rw [List.getElem?_range h,if_pos h]
  rfl
 ·rw [if_neg h,List.getElem?_eq_none (by simpa using h)]
  rfl
theorem run_zeros_own {P:Program} {w:World} (base:Nat) (t tn ty e:TypeId) (i:TypeInfo) (kq kn:IntKind) (ht:P.underlying t=some (.slice e)) (htn:P.underlying tn=some (.int kn)) (hi:P.info? e=some i) (hz:i.zero=some (.int .u8 0))
 (hsize:i.size=1) (hby:i.bytes=1) (v:Value) (n:Nat) (xs:List Int) (hown:w.ownsRow base e 1 v n (xs.map (Value.int .u8))) (k:Nat) (hsum:n+k≤140737488351232) (hbase:base≤w.heap.size) :
 ∃ v' w',(Builtin.append_ #[t,tn] ty #[v,.int kq k]).run P w=.ok v' w'∧w'.ownsRow base e 1 v' (n+k) ((xs++zs8 k).map (Value.int .u8))∧w.grownBy w' v.ownBlock∧NewOr w v v':=by
 have hw:IntKind.i64.wrap (k:Int)=k:=by rw [IntKind.wrap_i64];omega
 have hneg:¬ ((k:Int) < 0):=by omega
 have h48i:¬ (281474976710656 < (k:Int)):=by omega
 have hlen:((xs++zs8 k).map (Value.int .u8)).length=(n+k) * 1:=by
  have:=hown.1;rw [List.length_map,List.length_append,zs8,List.length_replicate];rw [List.length_map] at this;omega
 have hzc:=zeroCells_u8 k
 have made:∀ (old:Nat) (row:Option Nat),old < n+k →
  (w.drew.alloc (.cells ((xs.map (Value.int .u8)).toArray++Builtin.zeroCells #[Value.int .u8 0] k++Builtin.zeroCells #[Value.int .u8 0] (grownCap w (n+k) old e - (n+k))) e)).ownsRow base e 1 (.slice (some ⟨w.heap.size,0,none⟩) (n+k) (grownCap w (n+k) old e)) (n+k) ((xs++zs8 k).map (Value.int .u8)) ∧
  w.grownBy (w.drew.alloc (.cells ((xs.map (Value.int .u8)).toArray++Builtin.zeroCells #[Value.int .u8 0] k++Builtin.zeroCells #[Value.int .u8 0] (grownCap w (n+k) old e - (n+k))) e)) row:=by
  intro old row ho;have hge:=grownCap_ge w (n+k) old e;have hcm:grownCap w (n+k) old e≤maxLen:=grownCap_le_maxLen w (n+k) old e (by unfold maxLen;omega)
  have hxl:xs.length=n:=by have:=hown.1;rw [List.length_map] at this;omega
  refine ⟨⟨hlen,.inr ⟨w.heap.size,_,_,rfl,hbase,heap_alloc_new w.drew _,hge,hcm,?_,?_⟩⟩,⟨rfl,rfl,rfl,by simp,fun j hj _ => heap_alloc_old w.drew _ hj⟩⟩
  ·simp only [Array.size_append,List.size_toArray,List.length_map,size_zeroCells,hxl,List.length_cons,List.length_nil]
   omega
  ·simp only [Array.toList_append,hzc,List.map_append]
   rw [Nat.mul_one,List.take_append_of_le_length (by rw [List.length_append,List.length_map,List.length_map,zs8,List.length_replicate,hxl];omega),List.take_of_length_le (by rw [List.length_append,List.length_map,List.length_map,zs8,List.length_replicate,hxl];omega)]
 by_cases hk0:k=0
 ·subst hk0
  have hrun:(Builtin.append_ #[t,tn] ty #[v,.int kq ((0:Nat):Int)]).run P w=.ok v w:=by
   rcases hown.2 with ⟨rfl,rfl⟩ | ⟨g,cap,cur,rfl,_,_,hnc,_⟩
   ·simp [Builtin.append_,run_underlying ht,run_underlying htn,sizeOf,typeInfo,hi,asInt,asIntOf]
    have h0:IntKind.i64.wrap 0=0:=hw;simp [h0]
   ·simp [Builtin.append_,run_underlying ht,run_underlying htn,sizeOf,typeInfo,hi,asInt,asIntOf]
    have h0:IntKind.i64.wrap 0=0:=hw;simp [h0,hnc,storeCells]
  exact ⟨v,w,hrun,by simpa [zs8] using hown,World.grownBy.refl w _,NewOr.refl w v⟩
 ·have hk:0 < k:=by omega
  rcases hown.2 with ⟨rfl,rfl⟩ | ⟨g,cap,cur,rfl,hbg,hg,hnc,hcm,hcs,htake⟩
  ·have hx:xs=[]:=List.eq_nil_of_length_eq_zero (by have:=hown.1;simpa using this)
   subst hx;have hr:=run_append_nil_zeros (P:=P) w t tn ty e i (.int .u8 0) kq kn ht htn hi hz k hk (by omega) (by omega) (by rw [hby];omega)
   obtain ⟨m1,m2⟩:=made 0 (Value.ownBlock (.slice none 0 0)) (by omega)
   simp only [Nat.zero_add,List.map_nil,List.nil_append,Array.empty_append] at m1 m2 ⊢;exact ⟨_,_,hr,m1,m2,fun j hj => Or.inr (by simp [Value.ownBlock] at hj;omega)⟩
  ·by_cases hroom:n+k≤cap
   ·have hst:=run_storeCells_at P g n e ((zs8 k).map (Value.int .u8)) 0 cur w hg (by rw [List.length_map,zs8,List.length_replicate,hcs];omega) (ints_oneCell .u8 _)
    simp only [Nat.add_zero] at hst
    have hr:(Builtin.append_ #[t,tn] ty #[.slice (some ⟨g,0,none⟩) n cap,.int kq (k:Int)]).run P w=.ok (.slice (some ⟨g,0,none⟩) (n+k) cap) (w.setRow g (cur.toList.take n++(zs8 k).map (Value.int .u8)++cur.toList.drop (n+((zs8 k).map (Value.int .u8)).length)).toArray):=by
     have hks:¬ (k=0):=hk0;have hzc2:(Builtin.zeroCells (Value.int .u8 0).cells k).toList=(zs8 k).map (Value.int .u8):=hzc;simp [Builtin.append_,run_underlying ht,run_underlying htn,sizeOf,typeInfo,zeroValue,hi,hz,hsize,hby,asInt,asIntOf,hw,hneg,h48i,hks,hroom,Addr.add_lit,hzc2,hst]
    refine ⟨_,_,hr,⟨hlen,.inr ⟨g,cap,_,rfl,hbg,setRow_heap w g cur _ e _ hg,hroom,hcm,?_,?_⟩⟩,⟨rfl,rfl,rfl,by simp,fun j _ hj => setRow_other w g j _ (fun e => hj (by simp [Value.ownBlock,e]))⟩,fun j hj => Or.inl hj⟩
    ·simp only [List.size_toArray,List.length_append,List.length_take,List.length_drop,Array.length_toList,List.length_map,zs8,List.length_replicate]
     omega
    ·rw [Nat.mul_one] at htake ⊢
     rw [htake,List.map_append];simp only;rw [List.take_append_of_le_length (by have:=hown.1;rw [List.length_append,List.length_map,List.length_map,zs8,List.length_replicate];rw [List.length_map] at this;omega),List.take_of_length_le (by have:=hown.1;rw [List.length_append,List.length_map,List.length_map,zs8,List.length_replicate];rw [List.length_map] at this;omega)]
   ·have holds:∀ j u,(xs.map (Value.int .u8))[j]? = some u → w.drew.cell? ((⟨g,0,none⟩:Addr).add j)=some u:=fun j u hj => hown.cells (g:=g) rfl j u hj
    have hold:=run_firstCells_some (P:=P) w.drew i.size n ⟨g,0,none⟩ n cap (xs.map (Value.int .u8)) (by rw [hsize];exact hown.1) holds
    have hr:=run_append_grow_zeros (P:=P) w t tn ty e i (.int .u8 0) kq kn ht htn hi hz (some ⟨g,0,none⟩) n cap (xs.map (Value.int .u8)) hold k hk (by omega) (by omega) (by omega) (by rw [hby];omega) (growslice_fits (by omega) (by rw [hby];omega))
    obtain ⟨m1,m2⟩:=made cap (Value.ownBlock (.slice (some ⟨g,0,none⟩) n cap)) (by omega)
    exact ⟨_,_,hr,m1,m2,fun j hj => Or.inr (by simp [Value.ownBlock] at hj;omega)⟩
theorem append_zeros_new {P:Program} {w:World} {ops:Array Oper} {rest:List Oper} {o:Oper} {a:Act} {Q:Exit → Act → World → Prop} (hgd:o.guard=none) (s x:Operand) (t tn:TypeId)
 (ho:o.op=.call { callee:=.builtin .append,args:=#[s,x],argTypes:=#[t,tn] })
 (base:Nat) (e:TypeId) (i:TypeInfo) (kq kn:IntKind) (ht:P.underlying t=some (.slice e)) (htn:P.underlying tn=some (.int kn)) (hi:P.info? e=some i) (hz:i.zero=some (.int .u8 0)) (hsize:i.size=1) (hby:i.bytes=1)
 (v:Value) (n:Nat) (xs:List Int) (hs:a.eval s=v) (hown:w.ownsRow base e 1 v n (xs.map (Value.int .u8))) (K:Int) (k:Nat) (hx:a.eval x=.int kq K) (hK:K=(k:Int)) (hsum:n+k≤140737488351232) (hbase:base≤w.heap.size)
 (h:∀ v' w',w'.ownsRow base e 1 v' (n+k) ((xs++zs8 k).map (Value.int .u8)) → w.grownBy w' v.ownBlock → NewOr w v v' → wpList P ops Q rest (a.put o.dst v') w'):wpList P ops Q (o :: rest) a w:=by
 subst hK;obtain ⟨v',w',hr,h2,h3,h4⟩:=run_zeros_own (P:=P) base t tn o.type e i kq kn ht htn hi hz hsize hby v n xs hown k hsum hbase;exact Lib.wpList_append_run w hgd s x t tn ho v (.int kq k) hs hx v' w' hr (h v' w' h2 h3 h4)
end Go.Proofs.YtnpkcneojilmkaaGreatDoor.Byt
end
section
namespace Go.Proofs.YtnpkcneojilmkaaGreatDoor.Byt
open Go.ChangeShapes Go.WideShapes Go.ChangeAt Go.RowKit Base Go.Lib
set_option linter.unusedVariables false
theorem below_setCells {n:Nat} {w:World} (g:Nat) (hg:n≤g):∀ (vs:List Value) (o:Nat) (w':World),Below n w w' → Below n w (w'.setCells g o vs)
 | [],_,_,h => h
 | v :: vs,o,w',h => below_setCells g hg vs (o+1) _ (h.setCell (p:=⟨g,o,none⟩) hg v)
theorem getD_app_zeros (xs:List UInt8) (k j:Nat) (h:xs.length≤j):(xs++List.replicate k 0).getD j 0=0:=by
 rw [List.getD,List.getElem?_append_right h];rcases Nat.lt_or_ge (j - xs.length) k with h1 | h1
 ·rw [List.getElem?_replicate,if_pos h1];rfl
 ·rw [List.getElem?_eq_none (by simpa using h1)];rfl
theorem getD_app_left (xs ys:List UInt8) (j:Nat) (h:j < xs.length):(xs++ys).getD j 0=xs.getD j 0:=by
 rw [List.getD,List.getD,List.getElem?_append_left h]
theorem run_str_zeros {P:Program} (w:World) (t tn ty e:TypeId) (i:TypeInfo) (kq kn:IntKind) (ht:P.underlying t=some (.slice e)) (htn:P.underlying tn=some (.int kn)) (hi:P.info? e=some i) (hz:i.zero=some (.int .u8 0))
 (hsize:i.size=1) (hby:i.bytes=1) (s:ByteArray) (k:Nat) (hsum:s.size+k≤140737488351232) :
 ∃ p c w',(Builtin.append_ #[t,tn] ty #[.slice (some ⟨w.heap.size,0,none⟩) s.size (grownCap w s.size 0 e),.int kq k]).run P (bytesWorld w e s)=.ok (.slice p (s.size+k) c) w'∧s.size+k≤c∧c≤maxLen ∧
   BAt w' p (s.size+k) (s.data.toList++List.replicate k 0)∧Below w.heap.size w w':=by
 have hw:IntKind.i64.wrap (k:Int)=k:=by rw [IntKind.wrap_i64];omega
 have hneg:¬ ((k:Int) < 0):=by omega
 have h48i:¬ (281474976710656 < (k:Int)):=by omega
 have hbl:=str_below w e s;have hsl:s.data.toList.length=s.size:=by simp
 have hW:=bytesWorld_size w e s;have hcp:=str_cap w e s (by unfold maxLen;omega)
 by_cases hk0:k=0
 ·subst hk0
  have hrun:(Builtin.append_ #[t,tn] ty #[.slice (some ⟨w.heap.size,0,none⟩) s.size (grownCap w s.size 0 e),.int kq ((0:Nat):Int)]).run P (bytesWorld w e s)=.ok (.slice (some ⟨w.heap.size,0,none⟩) s.size (grownCap w s.size 0 e)) (bytesWorld w e s):=by
   simp [Builtin.append_,run_underlying ht,run_underlying htn,sizeOf,typeInfo,hi,asInt,asIntOf];have h0:IntKind.i64.wrap 0=0:=hw;simp [h0,hcp.1,storeCells]
  refine ⟨_,_,_,hrun,hcp.1,hcp.2,?_,hbl⟩;have:=str_bat w e s
  simpa using this
 ·have hk:0 < k:=by omega
  by_cases hroom:s.size+k≤grownCap w s.size 0 e
  ·have hnew:=bytesWorld_at_new w e s
   have hcs:(bytesCells w e s).size=grownCap w s.size 0 e:=by
    simp only [bytesCells,Array.size_append,Array.size_map,Array.size_replicate];have:s.data.size=s.size:=rfl;omega
   have hlen:((zs8 k).map (Value.int .u8)).length=k:=by rw [List.length_map,zs8,List.length_replicate]
   have hst:=run_storeCells_cells (P:=P) w.heap.size s.size ((zs8 k).map (Value.int .u8)) 0 (bytesWorld w e s) (fun j hj => by
    rw [hlen] at hj;simp only [World.cell?,hnew];rw [Array.getElem?_eq_getElem (by rw [hcs];omega)]
    rfl) (fun j hj => by
    rw [hlen] at hj;simp only [World.frozen?,hnew,Bool.and_eq_false_iff,decide_eq_false_iff_not,hcs];left
    omega) (ints_oneCell .u8 _)
   simp only [Nat.add_zero] at hst
   have hr:(Builtin.append_ #[t,tn] ty #[.slice (some ⟨w.heap.size,0,none⟩) s.size (grownCap w s.size 0 e),.int kq (k:Int)]).run P (bytesWorld w e s)=.ok (.slice (some ⟨w.heap.size,0,none⟩) (s.size+k) (grownCap w s.size 0 e)) ((bytesWorld w e s).setCells w.heap.size s.size ((zs8 k).map (Value.int .u8))):=by
    have hks:¬ (k=0):=hk0;have hzc2:(Builtin.zeroCells (Value.int .u8 0).cells k).toList=(zs8 k).map (Value.int .u8):=zeroCells_u8 k;simp [Builtin.append_,run_underlying ht,run_underlying htn,sizeOf,typeInfo,zeroValue,hi,hz,hsize,hby,asInt,asIntOf,hw,hneg,h48i,hks,hroom,Addr.add_lit,hzc2,hst]
   refine ⟨_,_,_,hr,hroom,hcp.2,fun _ => ⟨w.heap.size,0,rfl,fun j hj => ?_⟩,below_setCells _ (Nat.le_refl _) _ _ _ hbl⟩
   rw [Nat.zero_add];rcases Nat.lt_or_ge j s.size with hjs | hjs
   ·rw [World.cell?_setCells_out _ _ _ _ _ (fun _ _ => Or.inl hjs),bytesWorld_cell w e s j hjs,getD_app_left _ _ _ (by rw [hsl];exact hjs)]
   ·obtain ⟨d,rfl⟩:∃ d,j=s.size+d:=⟨j - s.size,by omega⟩
    have hd:d < ((zs8 k).map (Value.int .u8)).length:=by rw [hlen];omega
    rw [World.cell?_setCells_in _ _ _ _ (fun q hq => by
     rw [hlen] at hq;simp only [World.cell?,hnew];rw [Array.getElem?_eq_getElem (by rw [hcs];omega)]
     rfl) d hd,getD_app_zeros _ _ _ (by rw [hsl];omega)]
    simp [zs8]
  ·have holds:∀ j u,(s.data.toList.map fun b => Value.int .u8 (b.toNat:Int))[j]? = some u → (bytesWorld w e s).drew.cell? ((⟨w.heap.size,0,none⟩:Addr).add j)=some u:=fun j u hj => by
    have hjl:j < s.size:=by
     have:=(List.getElem?_eq_some_iff.1 hj).1;rw [List.length_map,hsl] at this;exact this
    have hc:=bytesWorld_cell w e s j hjl;have hadd:(⟨w.heap.size,0,none⟩:Addr).add j=⟨w.heap.size,j,none⟩:=by unfold Addr.add;split<;>simp_all
    rw [hadd];have hdr:(bytesWorld w e s).drew.cell? ⟨w.heap.size,j,none⟩=(bytesWorld w e s).cell? ⟨w.heap.size,j,none⟩:=rfl;rw [hdr,hc];rw [List.getElem?_map] at hj;obtain ⟨b,hb,rfl⟩:=Option.map_eq_some_iff.1 hj;rw [List.getD,hb];rfl
   have hold:=run_firstCells_some (P:=P) (bytesWorld w e s).drew i.size s.size ⟨w.heap.size,0,none⟩ s.size (grownCap w s.size 0 e) (s.data.toList.map fun b => Value.int .u8 (b.toNat:Int)) (by rw [hsize,List.length_map,hsl,Nat.mul_one]) holds
   have hr:=run_append_grow_zeros (P:=P) (bytesWorld w e s) t tn ty e i (.int .u8 0) kq kn ht htn hi hz (some ⟨w.heap.size,0,none⟩) s.size (grownCap w s.size 0 e) (s.data.toList.map fun b => Value.int .u8 (b.toNat:Int)) hold k hk (by omega) (by omega) (by omega) (by rw [hby];omega) (growslice_fits (by omega) (by rw [hby];omega))
   have hge:=grownCap_ge (bytesWorld w e s) (s.size+k) (grownCap w s.size 0 e) e;have hcm:grownCap (bytesWorld w e s) (s.size+k) (grownCap w s.size 0 e) e≤maxLen:=grownCap_le_maxLen _ _ _ e (by unfold maxLen;omega)
   refine ⟨_,_,_,hr,hge,hcm,fun _ => ⟨(bytesWorld w e s).heap.size,0,rfl,?_⟩,?_⟩
   ·intro j hj
    rw [Nat.zero_add];have hz1:(Builtin.zeroCells (Value.int .u8 0).cells k).toList=(zs8 k).map (Value.int .u8):=zeroCells_u8 k;have hz2:(Builtin.zeroCells (Value.int .u8 0).cells (grownCap (bytesWorld w e s) (s.size+k) (grownCap w s.size 0 e) e - (s.size+k))).toList=(zs8 (grownCap (bytesWorld w e s) (s.size+k) (grownCap w s.size 0 e) e - (s.size+k))).map (Value.int .u8):=zeroCells_u8 _;have hb:=heap_alloc_new (bytesWorld w e s).drew (.cells ((s.data.toList.map fun b => Value.int .u8 (b.toNat:Int)).toArray++Builtin.zeroCells (Value.int .u8 0).cells k++Builtin.zeroCells (Value.int .u8 0).cells (grownCap (bytesWorld w e s) (s.size+k) (grownCap w s.size 0 e) e - (s.size+k))) e)
    have hb2:(bytesWorld w e s).drew.heap.size=(bytesWorld w e s).heap.size:=rfl;rw [hb2] at hb;simp only [World.cell?,hb];rw [← Array.getElem?_toList,Array.toList_append,Array.toList_append,hz1,hz2,List.getElem?_append_left (by rw [List.length_append,List.length_map,List.length_map,zs8,List.length_replicate,hsl];exact hj)]
    have hm:(s.data.toList.map fun b => Value.int .u8 (b.toNat:Int))++(zs8 k).map (Value.int .u8)=(s.data.toList++List.replicate k 0).map fun b:UInt8 => Value.int .u8 (b.toNat:Int):=by simp [zs8]
    have hjl:j < (s.data.toList++List.replicate k (0:UInt8)).length:=by rw [List.length_append,List.length_replicate,hsl];exact hj
    show ((s.data.toList.map fun b => Value.int .u8 (b.toNat:Int))++(zs8 k).map (Value.int .u8))[j]? = _
    rw [hm,List.getElem?_map,List.getElem?_eq_getElem hjl,List.getD,List.getElem?_eq_getElem hjl];rfl
   ·exact (Below.trans hbl ⟨rfl,rfl,rfl,Nat.le_refl _,fun _ _ => rfl⟩:Below w.heap.size w (bytesWorld w e s).drew).alloc hbl.size _
theorem append_str_zeros {P:Program} {w:World} {ops:Array Oper} {rest:List Oper} {o:Oper} {a:Act} {Q:Exit → Act → World → Prop} (hgd:o.guard=none) (s x:Operand) (t tn:TypeId)
 (ho:o.op=.call { callee:=.builtin .append,args:=#[s,x],argTypes:=#[t,tn] })
 (e:TypeId) (i:TypeInfo) (kq kn:IntKind) (ht:P.underlying t=some (.slice e)) (htn:P.underlying tn=some (.int kn)) (hi:P.info? e=some i) (hz:i.zero=some (.int .u8 0)) (hsize:i.size=1) (hby:i.bytes=1)
 (S:ByteArray) (hs:a.eval s=.slice (some ⟨w.heap.size,0,none⟩) S.size (grownCap w S.size 0 e)) (K:Int) (k:Nat) (hx:a.eval x=.int kq K) (hK:K=(k:Int)) (hsum:S.size+k≤140737488351232)
 (h:∀ p c w',S.size+k≤c → c≤maxLen → BAt w' p (S.size+k) (S.data.toList++List.replicate k 0) → Below w.heap.size w w' → wpList P ops Q rest (a.put o.dst (.slice p (S.size+k) c)) w'):wpList P ops Q (o :: rest) a (bytesWorld w e S):=by
 subst hK;obtain ⟨p,c,w',hr,h1,h2,h3,h4⟩:=run_str_zeros (P:=P) w t tn o.type e i kq kn ht htn hi hz hsize hby S k hsum;exact Lib.wpList_append_run _ hgd s x t tn ho _ (.int kq k) hs hx _ w' hr (h p c w' h1 h2 h3 h4)
end Go.Proofs.YtnpkcneojilmkaaGreatDoor.Byt
end
