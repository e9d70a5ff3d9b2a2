/- Texts of this seat, merged: what the proof reaches. -/
import Derived.Test.YtnpkcneojilmkaaGreatDoorMemberGNUX13
import Derived.Test.YtnpkcneojilmkaaGreatDoorMemberGNUX16
import Derived.Lib.SliceRun
import Derived.Test.YtnpkcneojilmkaaGreatDoorMemberGNUX9
import Derived.Test.YtnpkcneojilmkaaGreatDoorMemberGNUX14
section
namespace Go.Proofs.YtnpkcneojilmkaaGreatDoor.Block
open Go.ChangeShapes Go.WideShapes Go.ChangeAt Go.RowKit Base Byt Num Go.Lib
set_option linter.unusedVariables false
theorem bat_none {w:World} {n:Nat} {bs:List UInt8} (h:BAt w none n bs):n=0:=by
 rcases Nat.eq_zero_or_pos n with h0 | h0
 ·exact h0
 ·obtain ⟨_,_,he,_⟩:=h h0
  cases he
def ClonePost (w:World) (n:Nat) (bs:List UInt8) (e:Ending) (w':World):Prop:=∃ v,e=.returned v∧OwnB w' w.heap.size v n bs∧Kept noneB w w'
theorem clone_any (w:World) (p:Option Addr) (n c:Nat) (bs:List UInt8) (hb:BAt w p n bs) (hl:bs.length=n) (hn:n≤140737488351232) :
 Calls Tryz.prog 63 #[.slice p n c] w (ClonePost w n bs):=by
 obtain ⟨i0,hi,hz0,hz1,hz2⟩:=info_parts infoU8;have q22:∀ (w:World) (a:Option Addr) (n c n' c':Nat),(binOp .eql 24 (.slice a n c) (.slice none n' c')).run Tryz.prog w=.ok (.bool a.isNone) w:=fun w a n c n' c' => Lib.run_eql_slice_nil w _ _ a n c n' c' Tryz.underlying24
 have HI:=Lib.hid hi;have HZ0:=Lib.hid hz0;have HZ1:=Lib.hid hz1;have HZ2:=Lib.hid hz2;have HB:=Lib.hid hb;have HL:=Lib.hid hl;clear hi hz0 hz1 hz2 hb hl;rcases p with _ | x
 ·obtain rfl:=bat_none HB.out
  obtain rfl:bs=[]:=List.eq_nil_of_length_eq_zero HL.out
  go_enter Tryz.func63,Tryz.ntmps63
  go_wp2
  go_ret
  exact ⟨_,rfl,World.ownsRow_nil _ _ _ _,Kept.refl _ _⟩
 ·go_enter Tryz.func63,Tryz.ntmps63
  go_wp2_with (at_builtin;refine append_bytes rfl _ _ 24 rfl w.heap.size 5 i0 Tryz.underlying24 HI.out HZ0.out HZ1.out HZ2.out _ 0 [] rfl (World.ownsRow_made w #[] 0 (Nat.le_refl _) (by decide) rfl) (some x) n c bs rfl (HB.out.alloc _) HL.out ?d2 ?d3 ?_)
  case d2 => omega
  case d3 => simp
  intro v' w1 hown hgrow;have HO:=Lib.hid hown;have hk:Kept noneB w w1:=(((Kept.refl noneB w).alloc _)).grown hgrow (by intro k hk;simp [Value.ownBlock] at hk;omega)
  have HK:=Lib.hid hk;clear hown hgrow hk
  go_wp2
  go_ret
  exact ⟨v',rfl,HO.out,HK.out⟩
def NewPost (w:World) (bs:List UInt8) (zs:List Int) (e:Ending) (w':World):Prop:=
 ∃ (g:Nat) (S:Sv),e=.returned (.pointer (some ⟨g,0,none⟩))∧w.heap.size≤g∧S.bs=bs∧S.n=bs.length∧S.zs=zs∧S.off g∧(∀ x,S.p=some x → w.heap.size≤x.block)∧(∀ x,S.q=some x → w.heap.size≤x.block)∧Src w' g S 0 0∧Kept noneB w w'
theorem new_any (w:World) (p:Option Addr) (n c:Nat) (bs:List UInt8) (q:Option Addr) (m d:Nat) (zs:List Int) (hb:BAt w p n bs) (hl:bs.length=n) (hn:n≤140737488351232) (hq:IAt w q m zs) (hz:zs.length=m) (hm:m * 8≤140737488351232) :
 Calls Tryz.prog 50 #[.slice p n c,.slice q m d] w (NewPost w bs zs):=by
 obtain ⟨i0,hi,hz0,hz1,hz2⟩:=info_parts infoI64;have HI:=Lib.hid hi;have HZ0:=Lib.hid hz0;have HZ1:=Lib.hid hz1;have HZ2:=Lib.hid hz2;have HB:=Lib.hid hb;have HL:=Lib.hid hl;have HQ:=Lib.hid hq;have HZ:=Lib.hid hz;clear hi hz0 hz1 hz2 hb hl hq hz
 go_enter Tryz.func50,Tryz.ntmps50
 go_wp2_with fail
 refine (clone_any w p n c bs HB.out HL.out hn).mono ?_
 rintro e w1 ⟨v,rfl,ho1,hk1⟩;have HO1:=Lib.hid ho1;have HK1:=Lib.hid hk1;clear ho1 hk1
 go_wp2_with (at_builtin;refine append_ints rfl _ _ 49 rfl w1.heap.size 3 i0 Tryz.underlying49 HI.out HZ0.out HZ1.out HZ2.out _ 0 [] rfl (World.ownsRow_nil _ _ _ _) q m d zs rfl (HQ.out.kept HK1.out (fun _ _ _ => id)) HZ.out ?d2 ?d3 ?_)
 case d2 => omega
 case d3 => exact Nat.le_refl _
 intro v' w2 hown hgrow;have HO2:=Lib.hid hown;have hk2:Kept noneB w1 w2:=(Kept.refl noneB w1).grown hgrow (by intro k hk;simp [Value.ownBlock] at hk)
 have HK2:=Lib.hid hk2;clear hown hgrow hk2;obtain ⟨p1,c1,rfl,h1,h2,h3,h4,h5⟩:=HO1.out.slice;obtain ⟨q1,d1,rfl,h6,h7,h8,h9,h10⟩:=iat_of_own HO2.out;have h11:=own_block HO2.out rfl
 have F:Hid (NewPost w bs zs (.returned (.pointer (some ⟨w2.heap.size,0,none⟩))) (w2.alloc (.cells #[.slice p1 n c1,.int .i64 0,.slice q1 m d1,.int .i64 0] 99))):=Lib.hid (by
  have hk3:Kept noneB w2 (w2.alloc (.cells #[.slice p1 n c1,.int .i64 0,.slice q1 m d1,.int .i64 0] 99)):=(Kept.refl noneB w2).alloc _;refine ⟨w2.heap.size,⟨p1,n,c1,bs,q1,m,d1,zs⟩,rfl,(HK1.out.trans HK2.out).size,rfl,HL.out.symm,rfl,?_,fun x hx => (h5 x hx).1,fun x hx => Nat.le_trans HK1.out.size (h11 x hx).1,⟨?_,?_,h4,h1,h2,hn,Nat.zero_le _,?_,h9,h6,h7,fun h => h,fun _ => rfl⟩,(HK1.out.trans HK2.out).trans hk3⟩
  ·intro _ x hx
   have:=(h11 x hx).2.1;omega
  ·exact heap_alloc_new _ _
  ·exact (h3.kept HK2.out (fun _ _ _ => id)).kept hk3 (fun _ _ _ => id)
  ·exact h8.kept hk3 (fun _ _ _ => id))
 clear h1 h2 h3 h4 h5 h6 h7 h8 h9 h10 h11
 go_wp2
 go_ret
 exact F.out
def BlockPost (w:World) (g a:Nat) (S:Sv) (e:Ending) (w':World):Prop:=
 (a=S.n∧e=.returned (.tuple #[.slice none 0 0,.int .i64 14])∧(∃ t',Src w' g S a t')∧Kept (oneB g) w w') ∨ (a < S.n∧ReadPost w g a S 512 e w')
theorem ReadPost.from {w w1 w':World} {g a N:Nat} {S:Sv} {e:Ending} (hk:Kept (oneB g) w w1) (h:ReadPost w1 g a S N e w'):ReadPost w g a S N e w':=by
 rcases h with ⟨h1,v,h2,h3,h4,h5⟩ | ⟨h1,h2,h3,h4⟩
 ·exact Or.inl ⟨h1,v,h2,h3.mono hk.size,h4,hk.trans h5⟩
 ·exact Or.inr ⟨h1,h2,h3,hk.trans h4⟩
theorem srcBlock_any (w:World) (g a t:Nat) (S:Sv) (h:Src w g S a t) (ho:S.off g) :
 Calls Tryz.prog 51 #[.pointer (some ⟨g,0,none⟩)] w (BlockPost w g a S):=by
 have hle:=h.le;have H:=Lib.hid h;have HO:=Lib.hid ho;clear h ho
 by_cases han:a=S.n
 ·have hz:Hid (S.n - a=0):=Lib.hid (by omega)
  go_enter Tryz.func51,Tryz.ntmps51
  go_wp2_with fail
  refine (left_any _ g a t S H.out).mono ?_
  rintro e w1 ⟨rfl,hs1,hk1⟩;obtain ⟨p,hp,_,_⟩:=left_bat hs1;rw [hp,hz.out];have HS1:=Lib.hid hs1;have HK1:=Lib.hid hk1;clear hs1 hk1 hp
  go_wp2
  go_ret2
  exact Or.inl ⟨han,rfl,⟨t,HS1.out⟩,HK1.out.of_none _⟩
 ·obtain ⟨l,hl⟩:∃ l,S.n - a=l+1:=⟨S.n - a - 1,by omega⟩
  have HLL:=Lib.hid hl;clear hl
  go_enter Tryz.func51,Tryz.ntmps51
  go_wp2_with fail
  refine (left_any _ g a t S H.out).mono ?_
  rintro e w1 ⟨rfl,hs1,hk1⟩;obtain ⟨p,hp,_,_⟩:=left_bat hs1;rw [hp,HLL.out];have HS1:=Lib.hid hs1;have HK1:=Lib.hid hk1;clear hs1 hk1 hp;have hb0:((((l+1:Nat):Int)) == 0)=false:=by simp;omega
  go_wp2_with fail
  refine (srcRead_any _ g a t S HS1.out HO.out 512 (by decide)).mono ?_
  intro e w2 hr;have HR:=Lib.hid (hr.from (HK1.out.of_none _))
  clear hr;have hr':=HR.out;rcases hr' with ⟨h1,v,rfl,h3,h4,h5⟩ | ⟨h1,rfl,h3,h4⟩
  ·clear h1 h3 h4 h5
   go_wp2
   go_ret2
   exact Or.inr ⟨by have:=HLL.out;omega,HR.out⟩
  ·clear h1 h3 h4
   go_wp2
   go_ret2
   exact Or.inr ⟨by have:=HLL.out;omega,HR.out⟩
theorem place_any (w:World) (g a t:Nat) (S:Sv) (h:Src w g S a t) :
 Calls Tryz.prog 33 #[.pointer (some ⟨g,0,none⟩)] w fun e w' => e=.returned (.int .i64 a)∧w=w':=by
 have h1:=h.c1;clear h
 go_enter Tryz.func33,Tryz.ntmps33
 go_wp2
 go_ret
 exact ⟨rfl,rfl⟩
def padN (k:Nat):Nat:=(k+511) / 512 * 512
theorem padF_nat (k:Nat) (h:k≤4611686018427387904):padF (k:Int)=(padN k:Int):=by
 unfold padF padN;rw [if_pos ⟨by omega,by omega⟩]
 by_cases h2:((k:Int) % 512=0)
 ·rw [if_pos h2];omega
 ·rw [if_neg h2];omega
theorem padN_ge (k:Nat):k≤padN k:=by unfold padN;omega
theorem padN_le (k:Nat):padN k≤k+511:=by unfold padN;omega
def BodyPost (w:World) (g a:Nat) (S:Sv) (k:Nat) (e:Ending) (w':World):Prop:=
 (a+padN k≤S.n ∧ ∃ p,e=.returned (.tuple #[.slice p k k,.int .i64 0])∧BAt w' p k ((S.bs.drop a).take k)∧(∀ x,p=some x → w.heap.size≤x.block)∧(∃ t',Src w' g S (a+padN k) t')∧Kept (oneB g) w w') ∨
 (S.n < a+padN k∧e=.returned (.tuple #[.slice none 0 0,.int .i64 2])∧(∃ t',Src w' g S S.n t')∧Kept (oneB g) w w')
theorem body_any (w:World) (g a t:Nat) (S:Sv) (h:Src w g S a t) (ho:S.off g) (k:Nat) (hn:k≤4611686018427387904) :
 Calls Tryz.prog 79 #[.pointer (some ⟨g,0,none⟩),.int .i64 k] w (BodyPost w g a S k):=by
 have H:=Lib.hid h;have HO:=Lib.hid ho;clear h ho
 go_enter Tryz.func79,Tryz.ntmps79
 go_wp2_with fail
 refine (pad_any k _).mono ?_
 rintro e w1 ⟨rfl,hb1⟩;rw [inB_true (by omega) (by omega),padF_nat k hn]
 have HK1:=Lib.hid (Kept.of_below hb1 noneB);clear hb1;have hp1:=padN_ge k;have hp2:=padN_le k;obtain ⟨P,hP⟩:∃ P,P=padN k:=⟨_,rfl⟩;rw [← hP] at hp1 hp2 ⊢;have HP:=Lib.hid hP;clear hP
 go_wp2_with fail
 refine (srcRead_any _ g a t S (H.out.kept0 HK1.out) HO.out P (by omega)).mono ?_
 intro e w2 hr;rcases hr.from (HK1.out.of_none _) with ⟨h1,v,rfl,h3,h4,h5⟩ | ⟨h1,rfl,h3,h4⟩
 ·obtain ⟨p,c,rfl,h6,h7,h8,h9,h10⟩:=h3.slice
  have h11:=h8.take hp1;rw [List.take_take,Nat.min_eq_left hp1] at h11;have F:Hid (BodyPost w g a S k (.returned (.tuple #[.slice p k k,.int .i64 0])) w2):=Lib.hid (Or.inl ⟨by rw [← HP.out];exact h1,p,rfl,h11,fun x hx => (h10 x hx).1,by rw [← HP.out];exact h4,h5⟩)
  clear h1 h3 h4 h5 h8 h9 h10 h11 hr
  go_wp2
  go_ret2
  exact F.out
 ·have F:Hid (BodyPost w g a S k (.returned (.tuple #[.slice none 0 0,.int .i64 2])) w2):=Lib.hid (Or.inr ⟨by rw [← HP.out];exact h1,rfl,h3,h4⟩)
  clear h1 h3 h4 hr
  go_wp2
  go_ret2
  exact F.out
end Go.Proofs.YtnpkcneojilmkaaGreatDoor.Block
end
section
namespace Go.Proofs.YtnpkcneojilmkaaGreatDoor.Block
open Go.ChangeShapes Go.WideShapes Go.ChangeAt Go.RowKit Base Byt Num Go.Lib Go.Proofs Go.Shelf
set_option linter.unusedVariables false
theorem info256b:(Tryz.prog.info? (Tryz.laysTrimLeft_ren.t 27)).map (fun i => (i.zero,i.size))=some (some (.agg (Array.replicate 256 (.bool false))),256):=by kernel_rfl
theorem trimLeft0_any (p:Option Addr) (n c:Nat) (bs:List UInt8) (w:World) (hl:bs.length=n) (hc:n≤c) (hm:c≤maxLen) (h:BAt w p n bs) :
 Calls Tryz.prog 101 #[.slice p n c,.string ⟨#[0]⟩] w fun e w' => e=.returned (Lib.leftV p n c (n - (Lib.trimLeftS bs [0]).length))∧Below w.heap.size w w':=
 Any.bytes_TrimLeft_ascii Tryz.laysTrimLeft (zero_of_info info256b).1 (zero_of_info info256b).2 p n c bs ⟨#[0]⟩ w hl hc (by unfold maxLen at hm;omega) h (by decide) (fun j b hb => by
  match j,hb with
  | 0,hb => cases hb;decide)
def restB (bs:List UInt8):Bool:=bs.all (· == 0)
theorem rest_len:∀ bs:List UInt8,decide ((Lib.trimLeftS bs [0]).length=0)=restB bs
 | [] => rfl
 | x :: l => by
   unfold Lib.trimLeftS restB
   by_cases h:x=0
   ·subst h
    have:=rest_len l;unfold Lib.trimLeftS restB at this
    simpa using this
   ·have hx:([0]:List UInt8).contains x=false:=by simpa using h
    rw [List.dropWhile_cons_of_neg (by rw [hx];decide)]
    simp [h]
theorem trimLeft0_le (l:List UInt8):(Lib.trimLeftS l [0]).length≤l.length:=(List.dropWhile_suffix _:Lib.trimLeftS l [0] <:+ l).length_le
theorem leftV_len (p:Option Addr) (n c k:Nat) (hk:k≤n):∃ p' c',Lib.leftV p n c (n - k)=.slice p' k c':=by
 unfold Lib.leftV Lib.fromV
 by_cases h0:k=0
 ·subst h0
  exact ⟨none,0,by rw [if_pos (by omega)]⟩
 ·by_cases h1:n - k=n
  ·omega
  ·rw [if_neg h1,show n - (n - k)=k by omega]
   exact ⟨_,_,rfl⟩
theorem rest_any (w:World) (g a t:Nat) (S:Sv) (h:Src w g S a t) :
 Calls Tryz.prog 71 #[.pointer (some ⟨g,0,none⟩)] w fun e w' => e=.returned (.bool (restB (S.bs.drop a)))∧Src w' g S a t∧Kept noneB w w':=by
 have H:=Lib.hid h;clear h
 go_enter Tryz.func71,Tryz.ntmps71
 go_wp2_with fail
 refine (left_any _ g a t S H.out).mono ?_
 rintro e w1 ⟨rfl,hs1,hk1⟩;obtain ⟨p,hp,hb1,_⟩:=left_bat hs1;rw [hp];have hlen:(S.bs.drop a).length=S.n - a:=by rw [List.length_drop,H.out.len]
 have HS1:=Lib.hid hs1;have HK1:=Lib.hid hk1;have HB1:=Lib.hid hb1;have HLEN:=Lib.hid hlen;clear hs1 hk1 hb1 hp hlen
 go_wp2_with fail
 refine (trimLeft0_any p _ _ (S.bs.drop a) w1 HLEN.out (by have:=HS1.out.nc;omega) (by have:=HS1.out.cm;omega) HB1.out).mono ?_
 rintro e w2 ⟨rfl,hb2⟩;obtain ⟨k,hk⟩:∃ k,k=(Lib.trimLeftS (S.bs.drop a) [0]).length:=⟨_,rfl⟩;have hkl:k≤S.n - a:=by rw [hk,← HLEN.out];exact trimLeft0_le _
 rw [← hk];obtain ⟨p',c',hv⟩:=leftV_len p (S.n - a) (S.c - a) k hkl;rw [hv];have HKK:=Lib.hid hk;have HK2:=Lib.hid (Kept.of_below hb2 noneB);clear hv hk hkl hb2;have F:∀ b,b=decide (k=0) → (Ending.returned (.bool b)=.returned (.bool (restB (S.bs.drop a)))):=fun b hb => by rw [hb,HKK.out,rest_len]
 have FH:=Lib.hid F;clear F
 by_cases h0:k=0
 ·subst h0
  go_wp2
  go_ret
  exact ⟨FH.out true rfl,HS1.out.kept0 HK2.out,HK1.out.trans HK2.out⟩
 ·have hz:((k:Int) == 0)=false:=by simpa using h0
  go_wp2
  go_ret
  exact ⟨FH.out false (by simp [h0]),HS1.out.kept0 HK2.out,HK1.out.trans HK2.out⟩
end Go.Proofs.YtnpkcneojilmkaaGreatDoor.Block
end
section
namespace Go.Proofs.YtnpkcneojilmkaaGreatDoor.Block
open Go.ChangeShapes Go.WideShapes Go.ChangeAt Go.RowKit Base Byt Num Go.Lib
set_option linter.unusedVariables false
structure Snk (w:World) (g B:Nat) (v:Value) (bs:List UInt8):Prop where
 blk:w.heap[g]? = some (.cells #[v] 82 (0,0))
 own:OwnB w B v bs.length bs
section
variable {w w':World} {g B:Nat} {v:Value} {bs:List UInt8}
theorem Snk.c0 (h:Snk w g B v bs):w.cell? ⟨g,0,none⟩=some v:=cells_at h.blk 0
theorem Snk.lt (h:Snk w g B v bs):g < w.heap.size:=(Array.getElem?_eq_some_iff.1 h.blk).1
theorem Snk.off (h:Snk w g B v bs):v.ownBlock≠some g:=fun e => by
 rcases h.own.2 with ⟨rfl,_⟩ | ⟨b,cap,cur,rfl,_,hb,_⟩
 ·cases e
 ·simp only [Value.ownBlock,Option.some.injEq] at e
  subst e;rw [h.blk] at hb;have:82=5:=by injection hb with h1;injection h1
  exact absurd this (by decide)
theorem Snk.kept {T:Nat → Prop} (h:Snk w g B v bs) (hk:Kept T w w') (hg:¬ T g) (hv:∀ k,v.ownBlock=some k → ¬ T k):Snk w' g B v bs:=⟨hk.some_ h.blk hg,h.own.kept hk hv⟩
theorem bat_offSnk {p:Option Addr} {n:Nat} {xs:List UInt8} (h:BAt w p n xs) (hs:Snk w g B v bs):0 < n → ∀ x,p=some x → x.block≠g:=fun h0 x hx e => by
 obtain ⟨b,o,hp,hc⟩:=h h0;rw [hp] at hx;cases hx;have h1:=hc 0 h0;change b=g at e;subst e;rw [cells_at hs.blk] at h1
 match o,h1 with
 | 0,h1 =>
   have hv:v=.int .u8 (xs.getD 0 0).toNat:=by simpa using h1
   rcases hs.own.2 with ⟨h2,_⟩ | ⟨b',cap,cur,h2,_⟩
   ·rw [hv] at h2;cases h2
   ·rw [hv] at h2;cases h2
 | o+1,h1 => simp at h1
end
def putB (g:Nat) (v:Value):Nat → Prop:=fun k => k=g ∨ v.ownBlock=some k
def LAt (w:World) (p:Option Addr) (n:Nat) (A:Nat → Option Addr) (M C:Nat → Nat) (Bs:Nat → List UInt8):Prop:=
 0 < n → ∃ b o,p=some ⟨b,o,none⟩∧b < w.heap.size ∧ ∀ i,i < n → w.cell? ⟨b,o+i,none⟩=some (.slice (A i) (M i) (C i))∧BAt w (A i) (M i) (Bs i)∧(Bs i).length=M i
def catB (Bs:Nat → List UInt8):Nat → List UInt8
 | 0 => []
 | k+1 => catB Bs k++Bs k
theorem catB_le (Bs:Nat → List UInt8) (k:Nat):∀ n,k≤n → (catB Bs k).length≤(catB Bs n).length
 | 0,h => by obtain rfl:k=0:=by omega
             exact Nat.le_refl _
 | n+1,h => by
   by_cases hk:k=n+1
   ·subst hk;exact Nat.le_refl _
   ·have:=catB_le Bs k n (by omega)
    rw [catB,List.length_append];omega
structure PutInv (w:World) (g B:Nat) (v:Value) (bs:List UInt8) (Bs:Nat → List UInt8) (k:Nat) (v':Value) (wr:World):Prop where
 snk:Snk wr g B v' (bs++catB Bs k)
 kept:Kept (putB g v) w wr
 new:NewOr w v v'
def PutPost (w:World) (g B:Nat) (v:Value) (bs xs:List UInt8) (e:Ending) (w':World):Prop:=
 ∃ v',e=.returned (.tuple #[])∧Snk w' g B v' (bs++xs)∧Kept (putB g v) w w'∧NewOr w v v'
set_option maxHeartbeats 1600000 in
theorem sput_any (w:World) (g B:Nat) (v:Value) (bs:List UInt8) (h:Snk w g B v bs) (hB:B≤w.heap.size) (lp:Option Addr) (ln lc:Nat) (A:Nat → Option Addr) (M C:Nat → Nat) (Bs:Nat → List UInt8)
 (hl:LAt w lp ln A M C Bs) (hlm:ln≤maxLen) (hoff:0 < ln → ∀ x,lp=some x → x.block≠g∧v.ownBlock≠some x.block) (hoffs:∀ i,i < ln → 0 < M i → ∀ x,A i=some x → v.ownBlock≠some x.block)
 (hsum:(bs++catB Bs ln).length≤140737488351232) :
 Calls Tryz.prog 62 #[.pointer (some ⟨g,0,none⟩),.slice lp ln lc] w (PutPost w g B v bs (catB Bs ln)):=by
 obtain ⟨i0,hi,hz0,hz1,hz2⟩:=info_parts infoU8;unfold maxLen at hlm;have HI:=Lib.hid hi;have HZ0:=Lib.hid hz0;have HZ1:=Lib.hid hz1;have HZ2:=Lib.hid hz2;have H:=Lib.hid h;have HL:=Lib.hid hl;have HOFF:=Lib.hid hoff;have HOFFS:=Lib.hid hoffs;have HS:=Lib.hid hsum;clear hi hz0 hz1 hz2 h hl hoff hoffs hsum
 go_enter Tryz.func62,Tryz.ntmps62
 go_wp2
 go_loopw [10] (fun i wr => ∃ (k:Nat) (v':Value),k≤ln∧i=.int .i64 k∧Hid (PutInv w g B v bs Bs k v' wr)) (fun i _ => ln - (RowKit.intOf i).toNat)
 case atStart => exact ⟨0,v,Nat.zero_le _,rfl,Lib.hid ⟨by rw [catB,List.append_nil];exact H.out,Kept.refl _ _,NewOr.refl _ _⟩⟩
 case round =>
  obtain ⟨k,v',hk,rfl,HR⟩:=hrel
  by_cases hlt:k < ln
  ·obtain ⟨lb,lo,hlp,hlb,hcells⟩:=HL.out (by omega)
   subst hlp;obtain ⟨hcell,hbk,hbl⟩:=hcells k hlt
   have hnb:¬ putB g v lb:=fun hh => by
    have:=HOFF.out (by omega) _ rfl
    rcases hh with hh | hh
    ·exact this.1 hh
    ·exact this.2 hh
   have hcell':=(World.cell?_of_block (a:=⟨lb,lo+k,none⟩) (HR.out.kept.block lb hlb hnb)).trans hcell
   have hb2:BAt wr (A k) (M k) (Bs k):=hbk.kept HR.out.kept (fun h0 x hx hh => by
    rcases hh with hh | hh
    ·exact bat_offSnk hbk H.out h0 x hx hh
    ·exact HOFFS.out k hlt h0 x hx hh)
   have hc0:=HR.out.snk.c0;have hf0:=cells_frozen HR.out.snk.blk 0
   have hsz:(bs++catB Bs k).length+M k≤140737488351232:=by
    have h1:=catB_le Bs (k+1) ln (by omega)
    have h2:=HS.out;rw [List.length_append] at h2 ⊢;rw [catB,List.length_append,hbl] at h1;omega
   have HB2:=Lib.hid hb2;have HBL:=Lib.hid hbl;have HSZ:=Lib.hid hsz;have hbs:B≤wr.heap.size:=Nat.le_trans hB HR.out.kept.size;have HBS:=Lib.hid hbs;clear hcells hbk hbl hnb hcell hb2 hsz hbs
   go_wp2_with (at_builtin;refine append_bytes_new rfl _ _ 24 rfl B 5 i0 Tryz.underlying24 HI.out HZ0.out HZ1.out HZ2.out v' _ _ rfl HR.out.snk.own (A k) (M k) (C k) (Bs k) rfl HB2.out HBL.out HSZ.out HBS.out ?_)
   intro v2 w2 hown2 hgrow2 hnew2;have hk2:Kept (fun x => v'.ownBlock=some x) wr w2:=(Kept.refl _ wr).grown hgrow2 (fun x hx => Or.inr hx)
   have hblk2:w2.heap[g]? = some (.cells #[v'] 82 (0,0)):=hk2.some_ HR.out.snk.blk (fun hh => HR.out.snk.off hh)
   have ho2:OwnB w2 B v2 (bs++catB Bs (k+1)).length (bs++catB Bs (k+1)):=by
    unfold OwnB;have e:bs++catB Bs (k+1)=(bs++catB Bs k)++Bs k:=by rw [catB,List.append_assoc]
    rw [e,List.length_append,List.length_append,HBL.out];unfold nums at hown2 ⊢;rw [List.map_append,List.map_append];exact hown2
   have hoff2:v2.ownBlock≠some g:=fun e => by
    rcases hnew2 g e with h1 | h1
    ·exact HR.out.snk.off h1
    ·have:=HR.out.snk.lt
     omega
   have R2:Hid (PutInv w g B v bs Bs (k+1) v2 (w2.setCell ⟨g,0,none⟩ v2)):=Lib.hid ⟨⟨cells_set hblk2 0 _ (by simp),ho2.kept (T:=oneB g) ((Kept.refl (oneB g) w2).setCell (Or.inr (show oneB g g from rfl)) _) (fun x hx e => hoff2 (by rw [hx];exact congrArg some e))⟩,
    ((HR.out.kept.then hk2 (fun x hx => by
      rcases HR.out.new x hx with h1 | h1
      ·exact Or.inr (Or.inr h1)
      ·exact Or.inl h1)).setCell (Or.inr (Or.inl rfl)) _),HR.out.new.trans hnew2 HR.out.kept.size⟩
   have hf2:=cells_frozen hblk2 0;have hc2:=cells_at hblk2 0;obtain ⟨p2,c2,hv2,_⟩:=ho2.slice;obtain ⟨l2,hl2⟩:∃ l2,l2=(bs++catB Bs (k+1)).length:=⟨_,rfl⟩;rw [← hl2] at hv2;subst hv2;clear hown2 hgrow2 hnew2 hk2 hblk2 ho2 hoff2 hl2
   go_wp2
   go_roundw
   case rel => exact ⟨k+1,_,by omega,by go_num,R2⟩
   case measure => simp [RowKit.intOf];omega
  ·obtain rfl:k=ln:=by omega
   go_wp2
   go_end0
   exact ⟨v',rfl,HR.out.snk,HR.out.kept,HR.out.new⟩
theorem catB_one (x:List UInt8):catB (fun _ => x) 1=x:=by simp [catB]
set_option maxHeartbeats 800000 in
theorem end_any (w:World) (g B:Nat) (v:Value) (bs:List UInt8) (h:Snk w g B v bs) (hB:B≤w.heap.size) (hsum:bs.length+1024≤140737488351232) :
 Calls Tryz.prog 41 #[.pointer (some ⟨g,0,none⟩)] w (PutPost w g B v bs (List.replicate 1024 0)):=by
 obtain ⟨i0,hi,hz0,hz1,hz2⟩:=info_parts infoU8;have HI:=Lib.hid hi;have HZ0:=Lib.hid hz0;have HZ1:=Lib.hid hz1;have HZ2:=Lib.hid hz2;have H:=Lib.hid h;clear hi hz0 hz1 hz2 h;obtain ⟨N,hN⟩:∃ N:Nat,N=1024:=⟨_,rfl⟩;have HN:=Lib.hid hN;obtain ⟨Z,hZ⟩:∃ Z:List UInt8,Z=List.replicate 1024 0:=⟨_,rfl⟩;have hZl:Z.length=N:=by rw [hZ,List.length_replicate,hN]
 rw [← hZ];have HZ:=Lib.hid hZ;have HZL:=Lib.hid hZl;clear hN hZ hZl
 go_enter Tryz.func41,Tryz.ntmps41
 go_wp2_with (at_make;refine wpList_make_full _ rfl _ _ 24 rfl w.heap.size 5 i0 (.int .u8 0) 1 Tryz.underlying24 HI.out HZ0.out HZ1.out .i64 .i64 1024 1024 N rfl rfl (by have:=HN.out;omega) (by have:=HN.out;omega) (by rw [HZ2.out];have:=HN.out;omega) (by unfold maxLen;have:=HN.out;omega) (Nat.le_refl _) ?_)
 intro w2 hown hgrow;have HK2:=Lib.hid ((Kept.refl noneB w).grown hgrow (by intro k hk;cases hk))
 have ho:OwnB w2 w.heap.size (.slice (some ⟨w.heap.size,0,none⟩) N N) N Z:=by
  unfold OwnB;rw [HZ.out,← HN.out,← made_u8];exact hown
 obtain ⟨_,_,hv,_,_,hbz,_,_⟩:=ho.slice
 cases hv
 have HZB:=Lib.hid hbz;clear hown hgrow ho hbz
 go_wp2_with fail
 refine (sput_any (w2.alloc (.cells #[.slice (some ⟨w.heap.size,0,none⟩) N N] 24)) g B v bs ?e1 ?e2 _ 1 1 (fun _ => some ⟨w.heap.size,0,none⟩) (fun _ => N) (fun _ => N) (fun _ => Z) ?e3 (by decide) ?e4 ?e5 ?e6).mono ?_
 case e1 => exact H.out.kept (HK2.out.alloc _) id (fun _ _ => id)
 case e2 => exact Nat.le_trans hB (HK2.out.alloc _).size
 case e3 =>
  intro _;refine ⟨w2.heap.size,0,rfl,by simp,fun i hi => ?_⟩
  match i,hi with
  | 0,_ => exact ⟨by simp,HZB.out.alloc _,HZL.out⟩
 case e4 =>
  intro _ x hx
  cases hx
  have h1:=H.out.lt;have h2:=HK2.out.size;refine ⟨by show w2.heap.size≠g;omega,fun e => ?_⟩
  have:w2.heap.size < w.heap.size:=(H.out.own.lt _ e).2;omega
 case e5 =>
  intro i hi _ x hx e
  cases hx
  have:w.heap.size < w.heap.size:=(H.out.own.lt _ e).2;omega
 case e6 => rw [catB_one,List.length_append,HZL.out,HN.out];omega
 rintro e w3 ⟨v',rfl,hs3,hk3,hn3⟩;rw [catB_one] at hs3
 have F:Hid (PutPost w g B v bs Z (.returned (.tuple #[])) w3):=Lib.hid ⟨v',rfl,hs3,((HK2.out.of_none _).alloc _).trans hk3,fun k hk => by
  rcases hn3 k hk with h1 | h1
  ·exact Or.inl h1
  ·exact Or.inr (Nat.le_trans (HK2.out.alloc _).size h1)⟩
 clear hs3 hk3 hn3
 go_wp2
 go_end0
 exact F.out
end Go.Proofs.YtnpkcneojilmkaaGreatDoor.Block
end
