/- Merged. -/
import Derived.Test.YtdhibldkldlfpaaGreatDoorEmitLeastX16
import Derived.Deep.AppendLies
import Derived.Lib.SlBytesConst
namespace Go.Proofs.YtdhibldkldlfpaaGreatDoor
set_option linter.unusedVariables false
set_option maxHeartbeats 1000000
set_option maxRecDepth 100000
open Go.ChangeShapes Go.WideShapes Go.ChangeAt Go.RowKit Base qd Fp bJ
namespace Field
variable {tl:List Int} {j count:Nat} {w0 wr:World}
theorem zE:(Tryz.prog.info? 5).map (fun i=>(i.zero,i.size,i.bytes))=some (some (.int .u8 0),1,1):=by kernel_rfl
def lie (j:Nat) (tl:List Int):List Value:=(List.replicate j (0:Int)++tl).map (Value.int .u8)
theorem NS (j:Nat) (tl:List Int) (x:Int):(lie (j+1) tl).set j (.int .u8 x)=lie j (x::tl):=by
 unfold lie;rw[←List.map_set,List.set_append_left _ _ (by simp)]
 congr 1
 rw[List.replicate_succ',List.set_append_right _ _ (by simp)];simp
theorem NR (j k:Nat) (tl:List Int) (h:k<j):(lie j tl)[k]? =some (.int .u8 0):=by
 unfold lie;rw[List.getElem?_map,List.getElem?_append_left (by simpa using h),List.getElem?_replicate,if_pos h];rfl
theorem zO (n:Nat):(madeCells #[Value.int .u8 0] n).toList=lie n []:=by
 rw[toList_madeCells_one,lie,List.append_nil,List.map_replicate]
def eQ (w0 wr:World) (count j:Nat) (tl:List Int):Prop:=
 wr.ownsRow w0.heap.size 5 1 (.slice (some ⟨w0.heap.size,0,none⟩) count count) count (lie j tl)∧Below w0.heap.size w0 wr
theorem eQ.cell (h:eQ w0 wr count j tl) (k:Nat) (hk:k<j) (hj:j≤count):wr.cell? ⟨w0.heap.size,k,none⟩=some (.int .u8 0):=by
 rw[h.1.cellAt k (by omega),NR j k tl hk]
theorem eQ.frozen (h:eQ w0 wr count j tl) (k:Nat):wr.frozen? ⟨w0.heap.size,k,none⟩=false:=h.1.frozenAt k
theorem eQ.store (h:eQ w0 wr count (j+1) tl) (x:Int):eQ w0 (wr.setCell ⟨w0.heap.size,j,none⟩ (.int .u8 x)) count j (x::tl):=by
 have:=(h.1.stored j (.int .u8 x)).1;rw[NS]at this;exact⟨this,h.2.setCell (by simp) _⟩
theorem eQ.ints (h:eQ w0 wr count 0 tl):wr.ownsRow w0.heap.size 5 1 (.slice (some ⟨w0.heap.size,0,none⟩) count count) count (tl.map (Value.int .u8)):=h.1
def MG (w:World) (base zero n:Int) (count:Nat) (e:Ending) (w':World):Prop:=
 (dV base count n=0∧e=.returned (.tuple #[.slice (some ⟨w.heap.size,0,none⟩) count count,.bool true])∧eQ w w' count 0 (eG base zero count n))∨
 (dV base count n≠0∧e=.returned (.tuple #[.slice none 0 0,.bool false])∧Below w.heap.size w w')
theorem iX (n base zero:Int) (count:Nat) (w:World) (hb:(base=8∧zero=48)∨(base=256∧zero=0)) (h0:0≤n) (h1:n≤4611686018427387904) (gR:1≤count) (kr:count≤99):
 Calls Tryz.prog 190 #[.int .i64 n,.int .i64 base,.int .u8 zero,.int .i64 count] w (MG w base zero n count):=by
 obtain⟨i0,hi,Y,W,X⟩:=info_parts zE;have V:=Qh hi;have b:=Qh Y;have Z:=Qh W;have c:=Qh X;clear hi Y W X;rcases hb with⟨rfl,rfl⟩|⟨rfl,rfl⟩
 ·go_enter Tryz.func190,Tryz.ntmps190
  go_wp2_with (at_make;refine wpList_make_full _ rfl _ _ 26 rfl w.heap.size 5 i0 (.int .u8 0) 1 Tryz.underlying26 V.out b.out Z.out .i64 .i64 _ _ count rfl rfl rfl rfl (by rw[c.out];omega) (by unfold maxLen;omega) (Qk _) ?_)
  intro U J L;have G:eQ w U count count []:=⟨by rw[←zO];exact J,(Below.refl _ _).grown L (Qk _) (by intro k hk;cases hk)⟩
  clear J L;have N:=Qh G;clear G;go_wp2
  go_loopw [0,11] (fun s i wr=>∃(j:Nat) (m:Int) (B:List Int),j≤count∧0≤m∧m≤4611686018427387904∧i=.int .i64 ((j:Int) - 1)∧s=.int .i64 m∧Hid (eG 8 48 j m++B=eG 8 48 count n∧dV 8 j m=dV 8 count n)∧Hid (eQ w wr count j B)) (fun _ i _=>(RowKit.intOf i+1).toNat)
  case atStart=>exact⟨count,n,[],Qk _,h0,h1,rfl,rfl,Qh ⟨List.append_nil _,rfl⟩,N⟩
  case round=>
   obtain⟨j,m,B,T,g,d,rfl,rfl,A,hl⟩:=hrel
   by_cases f:0<j
   ·obtain⟨j',rfl⟩:∃j',j=j'+1:=⟨j - 1,by omega⟩
    have hcell:=hl.out.cell j' (by omega) T;have R:=hl.out.frozen j';go_wp2_with fail;go_roundw
    case rel=>exact⟨j',m / 8,(48+m % 8)::B,by omega,by omega,by omega,rfl,rfl,Qh ⟨by rw[←A.out.1,eG,List.append_assoc];rfl,A.out.2⟩,Qh (hl.out.store _)⟩
    case measure=>simp[RowKit.intOf]
   ·obtain rfl:j=0:=by omega
    have E:=A.out.2;have D:=A.out.1;have M:=hl.out;rw[show eG 8 48 0 m=[]from rfl,List.nil_append]at D;rw[show dV 8 0 m=m from rfl]at E;have I:=Qh E;have O:=Qh D;have H:=Qh M;clear E D M A hl
    by_cases hm:0<m
    ·go_wp2_with fail
     go_ret2;exact Or.inr ⟨by rw[←I.out];omega,rfl,H.out.2⟩
    ·go_wp2_with fail
     go_ret2;exact Or.inl ⟨by rw[←I.out];omega,rfl,by rw[←O.out];exact H.out⟩
 ·go_enter Tryz.func190,Tryz.ntmps190
  go_wp2_with (at_make;refine wpList_make_full _ rfl _ _ 26 rfl w.heap.size 5 i0 (.int .u8 0) 1 Tryz.underlying26 V.out b.out Z.out .i64 .i64 _ _ count rfl rfl rfl rfl (by rw[c.out];omega) (by unfold maxLen;omega) (Qk _) ?_)
  intro U J L;have G:eQ w U count count []:=⟨by rw[←zO];exact J,(Below.refl _ _).grown L (Qk _) (by intro k hk;cases hk)⟩
  clear J L;have N:=Qh G;clear G;go_wp2
  go_loopw [0,11] (fun s i wr=>∃(j:Nat) (m:Int) (B:List Int),j≤count∧0≤m∧m≤4611686018427387904∧i=.int .i64 ((j:Int) - 1)∧s=.int .i64 m∧Hid (eG 256 0 j m++B=eG 256 0 count n∧dV 256 j m=dV 256 count n)∧Hid (eQ w wr count j B)) (fun _ i _=>(RowKit.intOf i+1).toNat)
  case atStart=>exact⟨count,n,[],Qk _,h0,h1,rfl,rfl,Qh ⟨List.append_nil _,rfl⟩,N⟩
  case round=>
   obtain⟨j,m,B,T,g,d,rfl,rfl,A,hl⟩:=hrel
   by_cases f:0<j
   ·obtain⟨j',rfl⟩:∃j',j=j'+1:=⟨j - 1,by omega⟩
    have hcell:=hl.out.cell j' (by omega) T;have R:=hl.out.frozen j';go_wp2_with fail;go_roundw
    case rel=>exact⟨j',m / 256,(0+m % 256)::B,by omega,by omega,by omega,rfl,rfl,Qh ⟨by rw[←A.out.1,eG,List.append_assoc];rfl,A.out.2⟩,Qh (by have:=hl.out.store (0+m % 256);simpa using this)⟩
    case measure=>simp[RowKit.intOf]
   ·obtain rfl:j=0:=by omega
    have E:=A.out.2;have D:=A.out.1;have M:=hl.out;rw[show eG 256 0 0 m=[]from rfl,List.nil_append]at D;rw[show dV 256 0 m=m from rfl]at E;have I:=Qh E;have O:=Qh D;have H:=Qh M;clear E D M A hl
    by_cases hm:0<m
    ·go_wp2_with fail
     go_ret2;exact Or.inr ⟨by rw[←I.out];omega,rfl,H.out.2⟩
    ·go_wp2_with fail
     go_ret2;exact Or.inl ⟨by rw[←I.out];omega,rfl,by rw[←O.out];exact H.out⟩
def dz (w:World) (r:Option (List Int)) (e:Ending) (w':World):Prop:=
 Below w.heap.size w w'∧
 ((∃l v,r=some l∧e=.returned (.tuple #[v,.bool true])∧w'.ownsRow w.heap.size 5 1 v l.length (l.map (Value.int .u8)))∨
  (r=none∧e=.returned (.tuple #[.slice none 0 0,.bool false])))
theorem qi {w w1 w2:World} (h1:Below w.heap.size w w1) (h2:Below w1.heap.size w1 w2):Below w.heap.size w w2:=h1.trans (h2.mono h1.size)
theorem Fc (n wide:Int) (w:World) (w0:(Lit.int .i64 n).wf=true) (w1:(Lit.int .i64 wide).wf=true):
 Calls Tryz.prog 160 #[.int .i64 n,.int .i64 wide] w (dz w (eZ n wide)):=by
 obtain⟨m,l⟩:=UX w0;obtain⟨p,g⟩:=UX w1;clear w0 w1
 by_cases hw:2≤wide∧wide≤100
 ·by_cases X:0≤n∧n≤4611686018427387904
  ·obtain⟨L,h1⟩:=X
   obtain⟨c,rfl⟩:∃c:Nat,wide=(c:Int)+1:=⟨(wide - 1).toNat,by omega⟩
   have hc:1≤c∧c≤99:=by omega
   obtain⟨W,Z⟩:=hc;clear hw p g m l
   have H:Hid (eZ n ((c:Int)+1)=if dV 8 c n=0 then some (eG 8 48 c n++[0])else if dV 256 c n=0 then some (128::eG 256 0 c n)else none):=Qh (by
    rw[eZ,if_pos ⟨L,h1,by omega,by omega⟩,show((c:Int)+1 - 1).toNat=c by omega])
   obtain⟨i0,hi,V,T,U⟩:=info_parts zE;have R:=Qh hi;have b:=Qh V;have Y:=Qh T;have d:=Qh U;clear hi V T U
   go_enter Tryz.func160,Tryz.ntmps160
   go_wp2_with (go_at_call 152;refine(dX _ _ _ _ (by omega) (by omega)).mono ?_;rintro e w' ⟨rfl,rfl⟩)
   refine(iX n 8 48 c _ (Or.inl ⟨rfl,rfl⟩) L h1 W Z).mono ?_;rintro e w1 (⟨B,rfl,D⟩|⟨B,rfl,N⟩)
   ·have EQ:Hid (eZ n ((c:Int)+1)=some (eG 8 48 c n++[0])):=Qh (by rw[H.out,if_pos B])
    have A:=Qh D;clear B D
    have M:w.heap.size<w1.heap.size:=by
     have h:=A.out.1;rcases h.lt _ rfl with⟨_,h⟩
     exact h
    go_wp2_with (at_builtin;refine wpList_append_own _ rfl _ _ 26 rfl w.heap.size 5 i0 (.int .u8 0) 1 1 Tryz.underlying26 R.out b.out Y.out d.out rfl (by decide) _ c _ rfl (A.out.ints.alloc _) ⟨w1.heap.size,0,none⟩ 1 1 [.int .u8 0] rfl rfl ?c1 ?c2 ?c3 ?c4 ?c5 ?_)
    case c1=>
     intro j u E
     match j,E with
     |0,E=>
      cases E
      show World.cell? _ ⟨w1.heap.size,0,none⟩=_;rw[World.cell?_alloc_at _ _ _ _ rfl];rfl
     |j+1,E=>simp at E
    case c2=>intro u hu;simp at hu;subst hu;rfl
    case c3=>unfold maxLen;omega
    case c4=>omega
    case c5=>simp;omega
    ·intro v' f I J _
     go_wp2;go_ret2;refine⟨(A.out.2.alloc A.out.2.size _).grown J (by simp;omega) (by intro k hk;simp[Value.ownBlock]at hk;omega),Or.inl ⟨_,v',EQ.out,rfl,?_⟩⟩;rw[Qf,dj,List.map_append];exact I
   ·go_wp2_with fail
    refine(iX n 256 0 c _ (Or.inr ⟨rfl,rfl⟩) L h1 W Z).mono ?_;rintro e f (⟨G,rfl,D⟩|⟨G,rfl,o⟩)
    ·have EQ:Hid (eZ n ((c:Int)+1)=some (128::eG 256 0 c n)):=Qh (by rw[H.out,if_neg B,if_pos G])
     have A:=Qh D;have O:=Qh N;clear B G D N
     have M:w1.heap.size<f.heap.size:=by
      have h:=A.out.1;rcases h.lt _ rfl with⟨_,h⟩
      exact h
     have q:w.heap.size≤w1.heap.size:=O.out.size
     go_wp2_with (at_builtin;refine wpList_append_own _ rfl _ _ 26 rfl w.heap.size 5 i0 (.int .u8 0) 1 1 Tryz.underlying26 R.out b.out Y.out d.out rfl (by decide) _ 1 _ rfl (World.ownsRow_lit _ #[.int .u8 128] 1 (by omega) (by decide) rfl) ⟨w1.heap.size,0,none⟩ c c ((eG 256 0 c n).map (Value.int .u8)) rfl ?c0 ?c1 ?c2 ?c3 ?c4 ?c5 ?_)
     case c0=>rw[Qi,dj];omega
     case c1=>exact(A.out.ints.alloc _).cells rfl
     case c2=>exact ints_oneCell .u8 _
     case c3=>unfold maxLen;omega
     case c4=>omega
     case c5=>simp;omega
     ·intro v' w3 I J _
      go_wp2;go_ret2;refine⟨((qi O.out A.out.2).alloc (by omega) _).grown J (by simp;omega) (by intro k hk;simp[Value.ownBlock]at hk;omega),Or.inl ⟨_,v',EQ.out,rfl,?_⟩⟩;rw[List.length_cons,dj,List.map_cons,Nat.add_comm c 1];exact I
    ·have EQ:Hid (eZ n ((c:Int)+1)=none):=Qh (by rw[H.out,if_neg B,if_neg G])
     clear B G;go_wp2;go_ret2;exact⟨qi N o,Or.inr ⟨EQ.out,rfl⟩⟩
  ·have EQ:Hid (eZ n wide=none):=Qh (by rw[eZ,if_neg (by omega)])
   go_enter Tryz.func160,Tryz.ntmps160
   go_wp2_with (go_at_call 152;first|(refine(dX _ _ _ _ (by omega) (by omega)).mono ?_;rintro e w' ⟨rfl,rfl⟩)|(refine(jb _ _ _ _ X).mono ?_;rintro e w' ⟨rfl,rfl⟩))
   go_ret2;exact⟨Below.refl _ _,Or.inr ⟨EQ.out,rfl⟩⟩
 ·have EQ:Hid (eZ n wide=none):=Qh (by rw[eZ,if_neg (by omega)])
  go_enter Tryz.func160,Tryz.ntmps160
  go_wp2_with (go_at_call 152;refine(jb _ _ _ _ hw).mono ?_;rintro e w' ⟨rfl,rfl⟩)
  go_ret2;exact⟨Below.refl _ _,Or.inr ⟨EQ.out,rfl⟩⟩
def lA (w0 wr:World) (count j:Nat) (tl:List Int):Prop:=
 ∃pre:List Int,pre.length=j∧wr.ownsRow w0.heap.size 5 1 (.slice (some ⟨w0.heap.size,0,none⟩) count count) count ((pre++tl).map (Value.int .u8))∧Below w0.heap.size w0 wr
theorem lA.frozen (h:lA w0 wr count j tl) (k:Nat):wr.frozen? ⟨w0.heap.size,k,none⟩=false:=by
 obtain⟨pre,A,h,_⟩:=h;exact h.frozenAt k
theorem lA.store (h:lA w0 wr count (j+1) tl) (x:Int):lA w0 (wr.setCell ⟨w0.heap.size,j,none⟩ (.int .u8 x)) count j (x::tl):=by
 obtain⟨pre,D,h,B⟩:=h;refine⟨pre.take j,by rw[Qg];omega,?_,B.setCell (by simp) _⟩;have:=(h.stored j (.int .u8 x)).1;rw[←List.map_set]at this
 rw[show pre.take j++x::tl=(pre++tl).set j x by
  rw[List.set_append_left _ _ (by omega)]
  have e:pre=pre.take j++[pre.getD j 0]:=by
   have A:j<pre.length:=by omega
   have:=List.take_succ_eq_append_getElem A;rw[show j+1=pre.length by omega,List.take_length]at this
   simpa [List.getD,A]using this
  conv=>rhs;rw[e]
  rw[List.set_append_right _ _ (by rw[Qg];omega)];rw[Qg,show j - min j pre.length=0 by omega]
  simp]
 exact this
theorem lA.ints (h:lA w0 wr count 0 tl):wr.ownsRow w0.heap.size 5 1 (.slice (some ⟨w0.heap.size,0,none⟩) count count) count (tl.map (Value.int .u8))∧Below w0.heap.size w0 wr:=by
 obtain⟨pre,B,h,A⟩:=h;obtain rfl:pre=[]:=List.eq_nil_of_length_eq_zero B;exact⟨h,A⟩
theorem eQ.pre (h:eQ w0 wr count 0 tl):lA w0 wr count count []:=by
 have hl:tl.length=count:=by have:=h.1.1;simpa [lie]using this
 exact⟨tl,hl,by rw[List.append_nil];exact h.1,h.2⟩
end Field
namespace Field
open Go.Lib (bytesOf)
theorem Ow (x:Int):pb (some x)=x:=rfl
theorem N4 (x:Int):Li (some x)=true:=rfl
theorem Ov:pb none=0:=rfl
theorem NZ:Li none=false:=rfl
theorem Fe {w w':World} {r:Option (List Int)} {n wide:Int} (hr:r=eZ n wide) {l:List Int} {v:Value} (h:r=some l) (bh:w'.ownsRow w.heap.size 5 1 v l.length (l.map (Value.int .u8))):
 ∃p c,v=.slice p l.length c∧l.length≤c∧c≤maxLen∧cB w' p l.length (bytesOf l)∧(bytesOf l).length=l.length:=
 nB bh (Od (hr▸h))
end Field
end Go.Proofs.YtdhibldkldlfpaaGreatDoor
