/- Texts of this seat, merged: what the proof reaches. -/
import Derived.Test.YtnpkcneojilmkaaDoorWriteShortX19
import Derived.Test.YtnpkcneojilmkaaDoorWriteShortX8
import Derived.Lib.ParseIntB
import Derived.Lib.AtoiTie
import Derived.Lib.ItoaNum
import Derived.Lib.IndexLaws
import Derived.Lib.AtoiAll
import Derived.Lib.SlTrimSet
import Derived.Test.YtnpkcneojilmkaaDoorWriteShortX9
import Derived.Test.YtnpkcneojilmkaaDoorWriteShortX1
import Derived.Laws.RangeAny
import Derived.LoopTactic
import Derived.Test.YtnpkcneojilmkaaDoorWriteShortX15
import Derived.Lib.LaidTab
import Derived.Deep.Draws
import Derived.Shelf.RegionOpenPlain
import Derived.Test.YtnpkcneojilmkaaDoorWriteShortX6
import Derived.Test.YtnpkcneojilmkaaDoorWriteShortX7
import Derived.BigQuiet
section
namespace Go.Proofs.YtnpkcneojilmkaaDoor.Rec
open Go.Lib Path
set_option linter.unusedVariables false
theorem dec_decL (u:Nat):decDigits u=decL u:=by
 induction u using Nat.strongRecOn with
 | ind u ih =>
   by_cases h:u < 10
   ·rw [decDigits,dif_pos h,decL_small h,digC,Nat.mod_eq_of_lt h]
   ·rw [decDigits,dif_neg h,decL_great h,ih _ (by omega)]
    rfl
theorem itoa_decL (u:Nat):itoa (u:Int)=decL u:=by
 unfold itoa;rw [if_neg (by omega),Int.toNat_natCast,dec_decL]
theorem lineN_count (m:Nat) (hm:0 < m):lineN m=m+(decL m).length∧(decL (m+(decL m).length)).length=(decL m).length ∨
 lineN m=m+(decL (m+(decL m).length)).length∧(decL (m+(decL m).length)).length≠(decL m).length∧(decL (m+(decL (m+(decL m).length)).length)).length=(decL (m+(decL m).length)).length:=by
 have he:=lineN_eq m hm
 by_cases h:(decL (m+(decL m).length)).length=(decL m).length
 ·left
  unfold lineN;rw [if_pos h];exact ⟨rfl,h⟩
 ·right
  have hl:lineN m=m+(decL m).length+1:=by unfold lineN;rw [if_neg h]
  rw [hl] at he;have h1:=dec_mono (show m+(decL m).length≤m+(decL m).length+1 by omega)
  have h2:=dec_mono (show m≤m+(decL m).length by omega)
  have h3:(decL (m+(decL m).length)).length=(decL m).length+1:=by omega
  refine ⟨by rw [hl,h3];omega,h,?_⟩
  rw [h3,← Nat.add_assoc];omega
end Go.Proofs.YtnpkcneojilmkaaDoor.Rec
end
section
namespace Go.Proofs.YtnpkcneojilmkaaDoor.Attr
open Go.Lib Rec Hp
set_option linter.unusedVariables false
abbrev RecL:=List (List UInt8 × List UInt8)
def keyT:Nat → List UInt8
 | 0 => [117,105,100] | 1 => [103,105,100] | 2 => [109,116,105,109,101] | 3 => [115,105,122,101] | 4 => [112,97,116,104] | _ => [108,105,110,107,112,97,116,104]
end Go.Proofs.YtnpkcneojilmkaaDoor.Attr
end
section
namespace Go.Proofs.YtnpkcneojilmkaaDoor.Mem
open Go.Lib Fp Hp Path Rec Attr
set_option linter.unusedVariables false
structure MemV where
 path:List UInt8
 target:List UInt8
 kind:UInt8
 mode:Int
 uid:Int
 gid:Int
 time:Int
 body:List UInt8
deriving instance DecidableEq for MemV
def metaOk (mode uid gid time:Int):Bool:=decide (0≤mode∧mode≤4095∧0≤uid∧uid < 2147483648∧0≤gid∧gid < 2147483648∧0≤time∧time≤1099511627776)
def cleanOk (l:List UInt8):Bool:=decide (cleanD 9 6 l=(l,0))
def goodD (m:MemV):Bool:=
 cleanOk m.path && metaOk m.mode m.uid m.gid m.time && decide (m.body.length≤1048576) && (m.kind == 48 || m.body == []) &&
  (if m.kind=48 ∨ m.kind=53 then m.target == [] else if m.kind=49 then cleanOk m.target else if m.kind=50 then decide (targetD 9 6 m.target=0) else false)
def blocksOf (n:Nat):Nat:=(n+511) / 512 * 512
def fitsD (l:List UInt8):Bool:=l.all fun b => decide (b.toNat≤127)
def longN:List UInt8:=[64,108,111,110,103]
def paxN:List UInt8:=[64,112,97,120]
def paxH (n:Nat):HeadV:=⟨paxN,[],120,0,0,0,0,(n:Int),false⟩
def longP (m:MemV):Bool:=(cutR m.path).isNone || !fitsD m.path
def longL (m:MemV):Bool:=decide (100 < m.target.length) || !fitsD m.target
def headM (m:MemV):HeadV:=
 ⟨if longP m then longN else m.path,if longL m then longN else m.target,m.kind,m.mode,if 2097151 < m.uid then 0 else m.uid,if 2097151 < m.gid then 0 else m.gid,if 8589934591 < m.time then 0 else m.time,(m.body.length:Int),false⟩
def recsM (m:MemV):RecL:=
 (if longP m then [(keyT 4,m.path)] else [])++(if longL m then [(keyT 5,m.target)] else [])++(if 2097151 < m.uid then [(keyT 0,decL m.uid.toNat)] else []) ++
  (if 2097151 < m.gid then [(keyT 1,decL m.gid.toNat)] else [])++(if 8589934591 < m.time then [(keyT 2,decL m.time.toNat)] else [])
def padB (l:List UInt8):List UInt8:=l++List.replicate (blocksOf l.length - l.length) 0
def putM (m:MemV):List UInt8:=
 (if linesD (recsM m)=[] then [] else (putR (paxH (linesD (recsM m)).length)).getD []++padB (linesD (recsM m)))++((putR (headM m)).getD []++padB m.body)
def archD (ms:List MemV):List UInt8:=(ms.map putM).flatten++List.replicate 1024 0
theorem blocks_ge (n:Nat):n≤blocksOf n∧blocksOf n < n+512:=by unfold blocksOf;omega
theorem padB_length (l:List UInt8):(padB l).length=blocksOf l.length:=by
 have:=(blocks_ge l.length).1;simp only [padB,List.length_append,List.length_replicate];omega
end Go.Proofs.YtnpkcneojilmkaaDoor.Mem
end
section
namespace Go.Proofs.YtnpkcneojilmkaaDoor.Wr
open Go.ChangeShapes Go.WideShapes Go.ChangeAt Go.RowKit Base Byt Txt Mem Go.Lib
set_option linter.unusedVariables false
theorem wr_at (s:ByteArray) (k:Nat) (hk:k < s.size):s[k]=s.data.toList.getD k 0:=by
 have h:k < s.data.toList.length:=by simpa using hk
 rw [List.getD,List.getElem?_eq_getElem h];rfl
set_option maxHeartbeats 1000000 in
theorem plain_any (s:ByteArray) (w:World) (hm:s.size≤140737488351232) :
 Calls Tryd.prog 47 #[.string s] w fun e w' => e=.returned (.bool (fitsD s.data.toList))∧Below w.heap.size w w':=by
 have HLEN:Hid (s.data.toList.length=s.size):=Lib.hid (by simp)
 have HB:Hid (∀ pos,Below w.heap.size w (w.iter s pos)):=Lib.hid (fun pos => (Below.refl _ _).alloc (Nat.le_refl _) _)
 go_enter Tryd.func47,Tryd.ntmps47
 go_wp2
 go_loopw [2] (fun r wr => r=.bool false ∧ ∃ (pos:Nat),wr=w.iter s pos∧pos≤s.size∧Hid (∀ x ∈ s.data.toList.take pos,x.toNat≤127)) (fun _ wr => s.size - wr.iterPos w.heap.size)
 case atStart => exact ⟨rfl,0,rfl,Nat.zero_le _,Lib.hid (by simp)⟩
 case round =>
  obtain ⟨rfl,pos,rfl,hp,hr⟩:=hrel
  by_cases hlt:pos < s.size
  ·have hkl:pos < s.data.toList.length:=by rw [HLEN.out];exact hlt
   have HG:Hid ((s[pos]).toNat=(s.data.toList.getD pos 0).toNat):=Lib.hid (by rw [wr_at s pos hlt])
   have HT:Hid (s.data.toList.take (pos+1)=s.data.toList.take pos++[s.data.toList.getD pos 0]):=Lib.hid (by
    rw [List.take_succ_eq_append_getElem hkl,List.getD,List.getElem?_eq_getElem hkl];rfl)
   have HM:Hid (s.data.toList.getD pos 0 ∈ s.data.toList):=Lib.hid (by
    rw [List.getD,List.getElem?_eq_getElem hkl];exact List.getElem_mem hkl)
   by_cases hx:(s[pos]).toNat < 128
   ·have hnx:=fun ty => run_next_ascii (P:=Tryd.prog) w s pos ty hlt hx
    have h127:¬ (127:Int) < ((s[pos]).toNat:Int):=by omega
    go_wp2
    go_roundw
    case rel => exact ⟨rfl,pos+1,rfl,by omega,Lib.hid (fun y hy => by
     rw [HT.out,List.mem_append] at hy;rcases hy with hy | hy
     ·exact hr.out y hy
     ·simp only [List.mem_singleton] at hy
      subst hy;have hg:=HG.out
      omega)⟩
    case measure => simp;omega
   ·have hnx:=fun ty => run_next_any (P:=Tryd.prog) w s pos ty hlt
    have hd:=decode_high s pos hlt (by omega)
    obtain ⟨r,k,hrk⟩:∃ r k,Utf8.decode s pos=(r,k):=⟨_,_,rfl⟩;rw [hrk] at hd;simp only [hrk] at hnx;obtain ⟨h128,_⟩:=hd;have h127:(127:Int) < (r:Int):=by omega
    have E:Hid (fitsD s.data.toList=false):=Lib.hid (by
     unfold fitsD;rw [Bool.eq_false_iff];intro h;have:=of_decide_eq_true (List.all_eq_true.1 h _ HM.out);have hg:=HG.out
     omega)
    clear hrk
    go_wp2
    go_ret
    rw [E.out];exact ⟨rfl,HB.out _⟩
  ·have hnx:=fun ty => run_next_end (P:=Tryd.prog) w s pos ty hlt
   have E:Hid (fitsD s.data.toList=true):=Lib.hid (by
    unfold fitsD;rw [List.all_eq_true];intro x hx
    exact decide_eq_true (hr.out x (by rw [List.take_of_length_le (by rw [HLEN.out];omega)];exact hx)))
   go_wp2
   go_ret
   rw [E.out];exact ⟨rfl,HB.out _⟩
end Go.Proofs.YtnpkcneojilmkaaDoor.Wr
end
section
namespace Go.Proofs.YtnpkcneojilmkaaDoor.Mem
open Go.Lib Fp Hp Path Rec Attr
set_option linter.unusedVariables false
theorem restD_zero (base:Int) (hb:0 < base):∀ (k:Nat) (n:Int),0≤n → n < base ^ k → restD base k n=0
 | 0,n,h0,h1 => by simp only [Int.pow_zero] at h1;simp only [restD];omega
 | k+1,n,h0,h1 => by
   rw [restD];refine restD_zero base hb k _ (Int.ediv_nonneg h0 (by omega)) (Int.ediv_lt_of_lt_mul hb ?_)
   rwa [Int.pow_succ] at h1
theorem putF8 {n:Int} (h0:0≤n) (h1:n < 2097152):(putF n 8).isSome=true:=by
 rw [putF_fits h0 (by omega) (by omega) (by omega) (restD_zero 8 (by omega) _ n h0 (by simpa using h1))];rfl
theorem putF12 {n:Int} (h0:0≤n) (h1:n < 8589934592):(putF n 12).isSome=true:=by
 rw [putF_fits h0 (by omega) (by omega) (by omega) (restD_zero 8 (by omega) _ n h0 (by simpa using h1))];rfl
theorem putR_is {h:HeadV} (hc:(cutR h.name).isSome=true) (hb:badH h=false) (hn:numsOk h=true):∃ H,putR h=some H∧H.length=512∧headR H=(h,0):=by
 obtain ⟨ps,hps⟩:=Option.isSome_iff_exists.1 hc
 have e:putR h=some (blockA (own2 h ps.1 ps.2)):=by
  unfold putR;rw [hps];simp [hb,hn]
 exact ⟨_,e,blockA_length _,headR_put e⟩
theorem ascii_text (l:List UInt8) (h:∀ b ∈ l,0 < b.toNat∧b.toNat < 128):textD l=true:=by
 induction l with
 | nil => exact textD_nil
 | cons c l ih =>
   obtain ⟨h1,h2⟩:=head_one c (h c (List.mem_cons_self ..)) l;rw [textD_step _ (by simp),if_pos h1,h2]
   exact ih fun b hb => h b (List.mem_cons_of_mem _ hb)
theorem text_nozero {l:List UInt8} (h:textD l=true):∀ x ∈ l,x≠0:=by
 rw [text_valid,Bool.and_eq_true,Bool.not_eq_true'] at h;intro x hx e;subst e;have:=h.2;rw [List.contains_eq_mem,decide_eq_false_iff_not] at this;exact this hx
theorem dec_text (n:Nat):textD (decL n)=true:=ascii_text _ fun b hb => by
 have:=decL_dig n b hb;simp only [isDig,decide_eq_true_eq] at this;omega
structure GoodM (m:MemV):Prop where
 path:cleanD 9 6 m.path=(m.path,0)
 pathT:textD m.path=true
 pathN:m.path≠[]
 pathL:m.path.length≤200
 mode:0≤m.mode∧m.mode≤4095
 uid:0≤m.uid∧m.uid < 2147483648
 gid:0≤m.gid∧m.gid < 2147483648
 time:0≤m.time∧m.time≤1099511627776
 body:m.body.length≤1048576
 file:m.kind≠48 → m.body=[]
 kind:m.kind=48 ∨ m.kind=49 ∨ m.kind=50 ∨ m.kind=53
 none:m.kind=48 ∨ m.kind=53 → m.target=[]
 hard:m.kind=49 → cleanD 9 6 m.target=(m.target,0)
 sym:m.kind=50 → targetD 9 6 m.target=0
 targT:textD m.target=true
 targL:m.target.length≤200
theorem clean_facts {l:List UInt8} (h:cleanD 9 6 l=(l,0)):textD l=true∧l≠[]∧l.length≤200:=by
 have h1:=(clean_ok 9 6 (by omega) (by omega) l l).1 h
 have h2:=clean_self 9 6 (by omega) (by omega) l l h
 exact ⟨h1.1,h2.2.1,h2.2.2.2⟩
theorem target_facts {l:List UInt8} (h:targetD 9 6 l=0):textD l=true∧l≠[]∧l.length≤200:=by
 unfold targetD at h
 split at h
 ·omega
 ·rename_i h1
  split at h
  ·omega
  ·rename_i h2
   simp only [not_or] at h2;exact ⟨by simpa using h1,h2.1,by omega⟩
theorem good_facts {m:MemV} (h:goodD m=true):GoodM m:=by
 simp only [goodD,Bool.and_eq_true,cleanOk,metaOk,decide_eq_true_eq,Bool.or_eq_true,beq_iff_eq] at h;obtain ⟨⟨⟨⟨h1,h2⟩,h3⟩,h4⟩,h5⟩:=h;obtain ⟨p1,p2,p3⟩:=clean_facts h1
 have hk:(m.kind=48 ∨ m.kind=49 ∨ m.kind=50 ∨ m.kind=53)∧((m.kind=48 ∨ m.kind=53) → m.target=[])∧(m.kind=49 → cleanD 9 6 m.target=(m.target,0))∧(m.kind=50 → targetD 9 6 m.target=0):=by
  split at h5
  ·rename_i hk
   refine ⟨by rcases hk with e | e<;>simp [e],fun _ => by simpa using h5,fun e => ?_,fun e => ?_⟩<;>(rw [e] at hk;exact absurd hk (by decide))
  ·rename_i hk
   split at h5
   ·rename_i hk2
    refine ⟨by simp [hk2],fun e => absurd e hk,fun _ => by simpa using h5,fun e => ?_⟩
    rw [hk2] at e;exact absurd e (by decide)
   ·rename_i hk2
    split at h5
    ·rename_i hk3
     exact ⟨by simp [hk3],fun e => absurd e hk,fun e => absurd e hk2,fun _ => by simpa using h5⟩
    ·cases h5
 obtain ⟨k1,k2,k3,k4⟩:=hk
 have ht:textD m.target=true∧m.target.length≤200:=by
  rcases k1 with e | e | e | e
  ·rw [k2 (.inl e)];exact ⟨textD_nil,by simp⟩
  ·have:=clean_facts (k3 e);exact ⟨this.1,this.2.2⟩
  ·have:=target_facts (k4 e);exact ⟨this.1,this.2.2⟩
  ·rw [k2 (.inr e)];exact ⟨textD_nil,by simp⟩
 exact ⟨h1,p1,p2,p3,by omega,by omega,by omega,by omega,h3,fun hn => h4.resolve_left hn,k1,k2,k3,k4,ht.1,ht.2⟩
theorem headM_put {m:MemV} (h:GoodM m):∃ H,putR (headM m)=some H∧H.length=512∧headR H=(headM m,0):=by
 refine putR_is ?_ ?_ ?_
 ·show (cutR (if longP m then longN else m.path)).isSome=true
  split
  ·rfl
  ·rename_i hp
   simp only [longP,Bool.or_eq_true,not_or,Bool.not_eq_true,Option.isNone_eq_false_iff] at hp;exact hp.1
 ·have hz1:(headM m).name.contains 0=false:=by
   show (if longP m then longN else m.path).contains 0=false
   split
   ·decide
   ·rw [List.contains_eq_mem,decide_eq_false_iff_not]
    exact fun hx => text_nozero h.pathT 0 hx rfl
  have hz2:(headM m).link.contains 0=false:=by
   show (if longL m then longN else m.target).contains 0=false
   split
   ·decide
   ·rw [List.contains_eq_mem,decide_eq_false_iff_not]
    exact fun hx => text_nozero h.targT 0 hx rfl
  have hl:(headM m).link.length≤100:=by
   show (if longL m then longN else m.target).length≤100
   split
   ·decide
   ·rename_i hp
    simp only [longL,Bool.or_eq_true,not_or,Bool.not_eq_true,decide_eq_false_iff_not] at hp;omega
  have hk:(m.kind == 0)=false:=by rcases h.kind with e | e | e | e<;>rw [e]<;>decide
  have hk':((headM m).kind == 0)=false:=hk;have hg:(headM m).gnu=false:=rfl;have hl':decide (100 < (headM m).link.length)=false:=decide_eq_false (by omega)
  simp only [badH,hz1,hz2,hk',hg,hl',Bool.or_false]
 ·refine numsOk_iff.2 fun i h1 h2 => ?_
  have hm:=h.mode;have hu:=h.uid;have hg:=h.gid;have ht:=h.time;have hb:=h.body;obtain rfl | rfl | rfl | rfl | rfl:i=1 ∨ i=2 ∨ i=3 ∨ i=4 ∨ i=5:=by omega
  ·exact putF8 (n:=m.mode) hm.1 (by omega)
  ·show (putF (if 2097151 < m.uid then 0 else m.uid) 8).isSome=true
   split
   ·exact putF8 (by omega) (by omega)
   ·exact putF8 hu.1 (by omega)
  ·show (putF (if 2097151 < m.gid then 0 else m.gid) 8).isSome=true
   split
   ·exact putF8 (by omega) (by omega)
   ·exact putF8 hg.1 (by omega)
  ·exact putF12 (n:=(m.body.length:Int)) (by omega) (by omega)
  ·show (putF (if 8589934591 < m.time then 0 else m.time) 12).isSome=true
   split
   ·exact putF12 (by omega) (by omega)
   ·exact putF12 ht.1 (by omega)
theorem ext_put (name:List UInt8) (hn:name.length≤100) (hz:name.contains 0=false) (k:UInt8) (hk:k≠0) (n:Nat) (hs:n≤1048576):∃ H,putR ⟨name,[],k,0,0,0,0,(n:Int),false⟩=some H∧H.length=512∧headR H=(⟨name,[],k,0,0,0,0,(n:Int),false⟩,0):=by
 refine putR_is (by rw [cutR_short hn];rfl) ?_ (numsOk_iff.2 fun i h1 h2 => ?_)
 ·have:(k == 0)=false:=beq_eq_false_iff_ne.2 hk
  simp only [badH,hz,this,List.length_nil,List.contains_nil,Bool.or_false];rfl
 ·obtain rfl | rfl | rfl | rfl | rfl:i=1 ∨ i=2 ∨ i=3 ∨ i=4 ∨ i=5:=by omega
  ·exact putF8 (n:=0) (by omega) (by omega)
  ·exact putF8 (n:=0) (by omega) (by omega)
  ·exact putF8 (n:=0) (by omega) (by omega)
  ·exact putF12 (n:=(n:Int)) (by omega) (by omega)
  ·exact putF12 (n:=0) (by omega) (by omega)
theorem paxH_put {n:Nat} (hs:n≤1048576):∃ H,putR (paxH n)=some H∧H.length=512∧headR H=(paxH n,0):=ext_put paxN (by decide) (by decide) 120 (by decide) n hs
theorem may_key (i:Nat) (hi:i < 6) {v:List UInt8} (h1:textD v=true) (h2:v.length≤200):mayD (keyT i) v=true:=by
 have hk:(keyT i).contains 61=false∧(keyT i).isEmpty=false∧textD (keyT i)=true∧(keyT i).length≤8:=by
  obtain rfl | rfl | rfl | rfl | rfl | rfl:i=0 ∨ i=1 ∨ i=2 ∨ i=3 ∨ i=4 ∨ i=5:=by omega
  all_goals exact ⟨by decide,by decide,ascii_text _ (by decide),by decide⟩
 obtain ⟨k1,k2,k3,k4⟩:=hk;simp only [mayD,k1,k2,k3,h1,Bool.not_false,Bool.true_and,decide_eq_true_eq];omega
theorem dec_len {n:Int} (h0:0≤n) (h:n≤1099511627776):(decL n.toNat).length≤18:=dec_le _ 18 (by omega) (by omega)
theorem recsM_may {m:MemV} (h:GoodM m):∀ r ∈ recsM m,mayD r.1 r.2=true:=by
 intro r hr;have hu:=h.uid;have hg:=h.gid;have ht:=h.time;simp only [recsM,List.mem_append] at hr
 have d:∀ (c:Prop) [Decidable c] (k v:List UInt8),r ∈ (if c then [(k,v)] else []) → r=(k,v):=fun c _ k v hr => by
  split at hr
  ·exact List.mem_singleton.1 hr
  ·cases hr
 rcases hr with (((hr | hr) | hr) | hr) | hr<;>(have e:=d _ _ _ hr;subst e)
 ·exact may_key 4 (by omega) h.pathT h.pathL
 ·exact may_key 5 (by omega) h.targT h.targL
 ·exact may_key 0 (by omega) (dec_text _) (by have:=dec_len hu.1 (by omega);show (decL _).length≤200;omega)
 ·exact may_key 1 (by omega) (dec_text _) (by have:=dec_len hg.1 (by omega);show (decL _).length≤200;omega)
 ·exact may_key 2 (by omega) (dec_text _) (by have:=dec_len ht.1 (by omega);show (decL _).length≤200;omega)
theorem recs_may_back {l:RecL} (h:∀ r ∈ l,mayD r.1 r.2=true):recsD 5 9 (linesD l)=(l,0):=by
 have:=recs_lines 5 9 l [] [] h;rw [List.append_nil,List.nil_append,recsFrom_nil] at this;exact this
theorem lines_le {n:Nat}:∀ {l:RecL},(∀ r ∈ l,mayD r.1 r.2=true∧r.1.length+r.2.length≤n) → (linesD l).length≤l.length * (n+10)
 | [],_ => by simp [linesD]
 | r :: l,h => by
   have ih:=lines_le fun x hx => h x (List.mem_cons_of_mem _ hx)
   obtain ⟨h1,h2⟩:=h r (List.mem_cons_self ..);obtain ⟨d,_,_,_,_,hd7,_,hlen⟩:=line_parts h1;have e:linesD (r :: l)=lineD r.1 r.2++linesD l:=by simp [linesD]
   rw [e,List.length_append,hlen,List.length_cons,Nat.succ_mul];omega
end Go.Proofs.YtnpkcneojilmkaaDoor.Mem
end
section
namespace Go.Proofs.YtnpkcneojilmkaaDoor.Rec
open Go.ChangeShapes Go.WideShapes Go.ChangeAt Go.RowKit Go.Shelf Base Byt Txt Path Go.Lib
set_option linter.unusedVariables false
set_option maxRecDepth 100000
def Need (w : World) : Prop := Path.Tabs w ∧ True ∧ Lib.TabIs Tryd.prog w "internal/strconv.uint64pow10" .u64 Lib.pow10Tab
theorem var_below {P:Program} {n:String} {w w':World} {cs:Array Value} (h:w.var? P n=some cs) (hb:Below w.heap.size w w'):w'.var? P n=some cs:=by
 unfold World.var? at h ⊢
 cases hg:P.globalNamed n with
 | none => simp [hg] at h
 | some g =>
   simp only [hg,Option.bind_some] at h ⊢
   have hlt:g < w.heap.size:=by
    rcases Nat.lt_or_ge g w.heap.size with h' | h'
    ·exact h'
    ·simp [Array.getElem?_eq_none h'] at h
   rw [hb.block g hlt];exact h
theorem Need.below {w w':World} (h:Need w) (hb:Below w.heap.size w w'):Need w':=
 ⟨h.1.below hb,trivial,var_below h.2.2 hb⟩
theorem row_below {w w':World} {B:Nat} {e:TypeId} {k:Nat} {v:Value} {n:Nat} {xs:List Value} (h:w.ownsRow B e k v n xs) (hb:Below w.heap.size w w'):w'.ownsRow B e k v n xs:=by
 refine ⟨h.1,?_⟩;rcases h.2 with h2 | ⟨g,cap,cur,rfl,h3,h4,h5⟩
 ·exact .inl h2
 ·exact .inr ⟨g,cap,cur,rfl,h3,by rw [hb.block g (Array.getElem?_eq_some_iff.1 h4).1];exact h4,h5⟩
theorem Need.tabs {w:World} (h:Need w):Path.Tabs w:=h.1
end Go.Proofs.YtnpkcneojilmkaaDoor.Rec
end
section
namespace Go.Proofs.YtnpkcneojilmkaaDoor.Rec
open Go.ChangeShapes Go.WideShapes Go.ChangeAt Go.RowKit Go.Shelf Base Byt Txt Path Go.Lib
set_option linter.unusedVariables false
set_option maxRecDepth 100000
theorem below_grow (w:World) (k:Nat) (os:Array Obj):Below w.heap.size w (Sort.grow (w.drewN k) os):=
 ⟨rfl,rfl,rfl,by rw [Sort.size_grow];show w.heap.size≤w.heap.size+os.size;omega,fun j hj => by
  show (w.heap++os)[j]? = w.heap[j]?
  rw [Array.getElem?_append_left hj]⟩
theorem itoa_any (m:Nat) (w:World) (hm:m≤9223372036854775807) (hN:Need w) :
 Calls Tryd.prog 49 #[.int .i64 (m:Int)] w fun e w' => e=.returned (.string (str (decL m)))∧Below w.heap.size w w':=by
 refine (Any.strconv_Itoa Tryd.laysItoa (m:Int) (by omega) (by omega) w hN.2.2).mono ?_
 rintro e w' ⟨rfl,k,os,rfl⟩;rw [itoa_decL];exact ⟨rfl,below_grow w k os⟩
theorem recCount_any (m:Nat) (w:World) (h0:0 < m) (hm:m≤1000000000000000) (hN:Need w) :
 Calls Tryd.prog 63 #[.int .i64 (m:Int)] w fun e w' => e=.returned (.string (str (decL (lineN m))))∧Below w.heap.size w w':=by
 have HL:=Lib.hid (lineN_count m h0);have HT:=Lib.hid hN;have hD:∀ n,n < 1000000000000000000 → (decL n).length≤18:=fun n h => dec_le n 18 (by omega) h
 have HD:=Lib.hid hD;have HP:=Lib.hid (decL_pos m);have hmi:(m:Int)≤1000000000000000:=by omega
 have HM:=Lib.hid hm;clear hN hD hm h0
 go_enter Tryd.func63,Tryd.ntmps63
 go_wp2_with fail
 go_loopw [3] (fun s wr => ∃ (S:ByteArray),s=.string S∧S.size≤18∧Hid (S=str [] ∨ S=str (decL m) ∨ (S=str (decL (m+(decL m).length))∧(decL (m+(decL m).length)).length≠(decL m).length))∧Hid (Below w.heap.size w wr)) (fun s _ => match s with | .string b => (if b.size=0 then 2 else if b.size=(decL m).length then 1 else 0) | _ => 0)
 case atStart => exact ⟨str [],rfl,by rw [str_size];simp,Lib.hid (.inl rfl),Lib.hid (Below.refl _ _)⟩
 case round =>
  obtain ⟨S,rfl,hs18,hst,hB⟩:=hrel;obtain ⟨d,hd⟩:∃ d,S.size=d:=⟨_,rfl⟩;have hd18:(d:Int)≤18:=by omega
  obtain ⟨X,hX⟩:∃ X,X=str (decL (m+d)):=⟨_,rfl⟩;have HX:=Lib.hid hX
  have HI:Hid (Calls Tryd.prog 49 #[.int .i64 ((m:Int)+(d:Int))] wr fun e w' => e=.returned (.string X)∧Below wr.heap.size wr w'):=Lib.hid (by
   have:=itoa_any (m+d) wr (by have:=HM.out;omega) (HT.out.below hB.out)
   rw [hX]
   rwa [show ((m+d:Nat):Int)=(m:Int)+(d:Int) by omega] at this)
  have HXS:Hid (X.size=(decL (m+d)).length):=Lib.hid (by rw [hX,str_size])
  have HX18:Hid (X.size≤18):=Lib.hid (by rw [HXS.out];exact HD.out _ (by have:=HM.out;omega))
  have HS:=Lib.hid hd;clear hX hs18
  by_cases hq:X.size=d
  ·have hb:((X.size:Int) == (d:Int))=true:=by rw [hq];simp
   have HE:Hid (X=str (decL (lineN m))):=Lib.hid (by
    have hxs:=HXS.out;have hp:=HP.out;have hss:=HS.out;rw [HX.out]
    congr 2
    rcases hst.out with e | e | ⟨e,ne⟩
    ·rw [e,str_size] at hss
     obtain rfl:d=0:=by simpa using hss.symm
     rw [Nat.add_zero] at hxs;omega
    ·rw [e,str_size] at hss
     rw [hq,← hss] at hxs;rcases HL.out with ⟨l1,l2⟩ | ⟨l1,l2,l3⟩
     ·rw [l1,← hss]
     ·exact absurd hxs.symm l2
    ·rw [e,str_size] at hss
     rcases HL.out with ⟨l1,l2⟩ | ⟨l1,l2,l3⟩
     ·exact absurd l2 ne
     ·rw [l1,← hss])
   clear hq
   go_wp2_with fail
   refine HI.out.mono ?_
   rintro e w1 ⟨rfl,hb1⟩;have HB1:=Lib.hid (hB.out.trans (hb1.mono hB.out.size));clear hb1
   go_wp2
   go_ret
   exact ⟨by rw [HE.out];rfl,HB1.out⟩
  ·have hb:((X.size:Int) == (d:Int))=false:=by rw [beq_eq_false_iff_ne];omega
   have HQ:=Lib.hid hq
   have HNX:Hid (S=str []∧X=str (decL m) ∨ S=str (decL m)∧(X=str (decL (m+(decL m).length))∧(decL (m+(decL m).length)).length≠(decL m).length)):=Lib.hid (by
    have hxs:=HXS.out;have hss:=HS.out;rcases hst.out with e | e | ⟨e,ne⟩
    ·rw [e,str_size] at hss
     obtain rfl:d=0:=by simpa using hss.symm
     exact .inl ⟨e,by rw [HX.out,Nat.add_zero]⟩
    ·rw [e,str_size] at hss
     refine .inr ⟨e,by rw [HX.out,hss],?_⟩
     rw [hss,← hxs];exact HQ.out
    ·rw [e,str_size] at hss
     rcases HL.out with ⟨l1,l2⟩ | ⟨l1,l2,l3⟩
     ·exact absurd l2 ne
     ·rw [hss] at l3
      exact absurd (hxs.trans l3) HQ.out)
   clear hq
   go_wp2_with fail
   refine HI.out.mono ?_
   rintro e w1 ⟨rfl,hb1⟩;have HB1:=Lib.hid (hB.out.trans (hb1.mono hB.out.size));clear hb1
   go_wp2_with fail
   go_roundw
   case rel => exact ⟨X,rfl,HX18.out,Lib.hid (by
    rcases HNX.out with ⟨_,e⟩ | ⟨_,e⟩
    ·exact .inr (.inl e)
    ·exact .inr (.inr e)),HB1⟩
   case measure =>
    have hp:=HP.out;rcases HNX.out with ⟨e1,e2⟩ | ⟨e1,e2,ne⟩
    ·rw [e1,e2]
     simp only [str_size,List.length_nil,if_true];rw [if_neg (by omega)]
     omega
    ·have hgr:=dec_mono (show m≤m+(decL m).length by omega)
     rw [e1,e2];simp only [str_size,if_true];rw [if_neg (by omega),if_neg ne,if_neg (by omega)]
     omega
end Go.Proofs.YtnpkcneojilmkaaDoor.Rec
end
section
namespace Go.Proofs.YtnpkcneojilmkaaDoor.Mem
open Go.Lib Fp Hp Path Rec Attr
set_option linter.unusedVariables false
theorem lines_nil {l:RecL} (hm:∀ r ∈ l,mayD r.1 r.2=true) (h:linesD l=[]):l=[]:=by
 have h1:=recs_may_back hm;rw [h] at h1;have h2:recsD 5 9 []=([],0):=rfl;rw [h2] at h1;exact (Prod.mk.inj h1).1.symm
theorem linesM_le {m:MemV} (h:GoodM m):(linesD (recsM m)).length≤1048576:=by
 have h1:=recsM_may h
 have h2:(recsM m).length≤5:=by
  have d:∀ (c:Prop) [Decidable c] (k v:List UInt8),(if c then [(k,v)] else []).length≤1:=fun c _ k v => by split<;>simp
  simp only [recsM,List.length_append];have d1:=d (longP m=true) (keyT 4) m.path;have d2:=d (longL m=true) (keyT 5) m.target;have d3:=d (2097151 < m.uid) (keyT 0) (decL m.uid.toNat);have d4:=d (2097151 < m.gid) (keyT 1) (decL m.gid.toNat);have d5:=d (8589934591 < m.time) (keyT 2) (decL m.time.toNat);omega
 have h3:=lines_le (n:=100000) fun r hr => ⟨h1 r hr,(mayD_spec (h1 r hr)).2.2.2.2⟩
 have h4:(recsM m).length * (100000+10)≤5 * (100000+10):=Nat.mul_le_mul_right _ h2;omega
theorem put_laid {m:MemV} (h:GoodM m):∃ H,putR (headM m)=some H∧H.length=512∧headR H=(headM m,0) ∧
 ((recsM m=[]∧putM m=H++padB m.body) ∨ ∃ X,putR (paxH (linesD (recsM m)).length)=some X∧X.length=512∧headR X=(paxH (linesD (recsM m)).length,0)∧putM m=X++padB (linesD (recsM m))++(H++padB m.body)):=by
 obtain ⟨H,h1,h2,h3⟩:=headM_put h;refine ⟨H,h1,h2,h3,?_⟩
 by_cases hl:linesD (recsM m)=[]
 ·refine .inl ⟨lines_nil (recsM_may h) hl,?_⟩
  rw [putM,if_pos hl,h1];rfl
 ·obtain ⟨X,x1,x2,x3⟩:=paxH_put (linesM_le h)
  refine .inr ⟨X,x1,x2,x3,?_⟩;rw [putM,if_neg hl,h1,x1];rfl
def putAllM (ms:List MemV):List UInt8:=(ms.map putM).flatten
theorem putAllM_cons (m:MemV) (ms:List MemV):putAllM (m :: ms)=putM m++putAllM ms:=by simp [putAllM]
theorem putAllM_app (a b:List MemV):putAllM (a++b)=putAllM a++putAllM b:=by simp [putAllM]
theorem archD_eq (ms:List MemV):archD ms=putAllM ms++List.replicate 1024 0:=rfl
end Go.Proofs.YtnpkcneojilmkaaDoor.Mem
end
section
namespace Go.Proofs.YtnpkcneojilmkaaDoor.Mem
open Go.Lib Fp Hp Path Rec Attr
set_option linter.unusedVariables false
theorem blocks_mod (n:Nat):blocksOf n % 512=0:=Nat.mul_mod_left _ _
end Go.Proofs.YtnpkcneojilmkaaDoor.Mem
end
section
namespace Go.Proofs.YtnpkcneojilmkaaDoor.Mem
open Go.Lib Fp Hp Path Rec Attr
set_option linter.unusedVariables false
theorem putM_mod {m:MemV} (h:GoodM m):(putM m).length % 512=0∧512+blocksOf m.body.length≤(putM m).length:=by
 have hb:=blocks_mod m.body.length;have hl:=blocks_mod (linesD (recsM m)).length;obtain ⟨H,_,h2,_,(⟨_,e⟩ | ⟨X,_,x2,_,e⟩)⟩:=put_laid h
 ·rw [e,List.length_append,padB_length,h2];omega
 ·rw [e,List.length_append,List.length_append,List.length_append,padB_length,padB_length,h2,x2];omega
theorem put_cases {m:MemV} (h:GoodM m):∃ H,putR (headM m)=some H∧H.length=512 ∧
 ((recsM m=[]∧putM m=H++padB m.body) ∨ (recsM m≠[] ∧ ∃ X,putR (paxH (linesD (recsM m)).length)=some X∧X.length=512∧putM m=X++padB (linesD (recsM m))++(H++padB m.body))):=by
 obtain ⟨H,h1,h2,_⟩:=headM_put h;refine ⟨H,h1,h2,?_⟩
 by_cases hr:recsM m=[]
 ·refine .inl ⟨hr,?_⟩
  rw [putM,hr,if_pos (show linesD []=[] from rfl),h1]
  rfl
 ·obtain ⟨X,x1,x2,_⟩:=paxH_put (linesM_le h)
  refine .inr ⟨hr,X,x1,x2,?_⟩;rw [putM,if_neg (fun e => hr (lines_nil (recsM_may h) e)),h1,x1]
  rfl
def plainM (m:MemV):Bool:=
 decide (m.path.length≤100) && (decide (m.target.length≤100) && (decide (m.uid≤2097151) && (decide (m.gid≤2097151) && (decide (m.time≤8589934591) && (fitsD m.path && fitsD m.target)))))
theorem plain_recs {m:MemV} (h:plainM m=true):recsM m=[]:=by
 unfold plainM at h;simp only [Bool.and_eq_true,decide_eq_true_eq] at h;obtain ⟨h1,h2,h3,h4,h5,h6,h7⟩:=h;have e1:longP m=false:=by unfold longP;rw [cutR_short h1,h6];rfl
 have e2:longL m=false:=by
  unfold longL;rw [h7]
  simpa using h2
 unfold recsM;rw [e1,e2];have a1:¬ 2097151 < m.uid:=by omega
 have a2:¬ 2097151 < m.gid:=by omega
 have a3:¬ 8589934591 < m.time:=by omega
 simp [a1,a2,a3]
theorem putM_plain {m:MemV} (h:GoodM m) (hp:plainM m=true):(putM m).length=512+blocksOf m.body.length:=by
 have hr:=plain_recs hp;obtain ⟨H,_,h2,_,_⟩:=put_laid h
 have e:putM m=(putR (headM m)).getD []++padB m.body:=by
  unfold putM;rw [hr,if_pos (show linesD []=[] from rfl),List.nil_append]
 obtain ⟨H,h1,h2,_,_⟩:=put_laid h;rw [e,h1,List.length_append,padB_length];show H.length+_=_;rw [h2]
def sizeM (ms:List MemV):Nat:=(ms.map fun m => if goodD m=true then (putM m).length else 0).sum
theorem sizeM_snoc (ms:List MemV) (m:MemV):sizeM (ms++[m])=sizeM ms+if goodD m=true then (putM m).length else 0:=by simp [sizeM]
end Go.Proofs.YtnpkcneojilmkaaDoor.Mem
end
section
namespace Go.Proofs.YtnpkcneojilmkaaDoor.Mem
open Go.ChangeShapes Go.WideShapes Go.ChangeAt Go.RowKit Hp Head Path Rec Attr Go.Lib
set_option linter.unusedVariables false
theorem target_le {m:MemV} (h:GoodM m):m.target.length≤200:=by
 rcases h.kind with k | k | k | k
 ·rw [h.none (.inl k)];simp
 ·exact ((clean_ok 9 6 (by decide) (by decide) _ _).1 (h.hard k)).2.2.2.2.2
 ·have:=h.sym k
  unfold targetD at this
  split at this
  ·cases this
  ·split at this
   ·cases this
   ·omega
 ·rw [h.none (.inr k)];simp
theorem wf_i64 {n:Int} (h0:0≤n) (h1:n≤9223372036854775807):(Lit.int .i64 n).wf=true:=by
 have e1:IntKind.i64.min = -9223372036854775808:=rfl;have e2:IntKind.i64.max=9223372036854775807:=rfl;simp only [Lit.wf,Bool.and_eq_true,decide_eq_true_eq];omega
theorem headM_wf {m:MemV} (h:GoodM m):∀ i,(Lit.int .i64 (numH (headM m) i)).wf=true:=by
 have h1:=h.mode;have h2:=h.uid;have h3:=h.gid;have h4:=h.time;have h5:=h.body;intro i;unfold numH headM
 split
 ·exact wf_i64 (n:=m.mode) h1.1 (by omega)
 ·simp only;split<;>exact wf_i64 (by omega) (by omega)
 ·simp only;split<;>exact wf_i64 (by omega) (by omega)
 ·exact wf_i64 (n:=(m.body.length:Int)) (by omega) (by omega)
 ·simp only;split<;>exact wf_i64 (by omega) (by omega)
 ·exact wf_i64 (by omega) (by omega)
theorem headM_tx {m:MemV} (h:GoodM m):(headM m).name.length≤140737488351232∧(headM m).link.length≤140737488351232:=by
 have h1:=h.pathL;have h2:=target_le h;unfold headM;constructor
 ·simp only;split
  ·decide
  ·omega
 ·simp only;split
  ·decide
  ·omega
theorem paxH_wf {n:Nat} (h:n≤1048576):∀ i,(Lit.int .i64 (numH (paxH n) i)).wf=true:=by
 intro i;unfold numH paxH
 split
 ·exact wf_i64 (n:=0) (by omega) (by omega)
 ·exact wf_i64 (n:=0) (by omega) (by omega)
 ·exact wf_i64 (n:=0) (by omega) (by omega)
 ·exact wf_i64 (n:=(n:Int)) (by omega) (by omega)
 ·exact wf_i64 (n:=0) (by omega) (by omega)
 ·exact wf_i64 (by omega) (by omega)
end Go.Proofs.YtnpkcneojilmkaaDoor.Mem
end
section
namespace Go.Proofs.YtnpkcneojilmkaaDoor.Mem
open Go.Lib Fp Hp Path Rec Attr
set_option linter.unusedVariables false
def noM:MemV:=⟨[],[],0,0,0,0,0,[]⟩
def goalD (kind:UInt8) (link:List UInt8):List UInt8 × Int:=if kind=49 then cleanD 9 6 link else if kind=50 then (link,targetD 9 6 link) else ([],0)
def sizeD (kind:UInt8) (n:Int):Int:=if kind≠48∧n≠0 then 4 else if 1048576 < n then 10 else 0
def fromD (h:HeadV):MemV × Int:=
 if (cleanD 9 6 h.name).2≠0 then (noM,(cleanD 9 6 h.name).2)
 else if metaOk h.mode h.uid h.gid h.time=false then (noM,4)
 else if (goalD h.kind h.link).2≠0 then (noM,(goalD h.kind h.link).2)
 else if sizeD h.kind h.size≠0 then (noM,sizeD h.kind h.size)
 else (⟨(cleanD 9 6 h.name).1,(goalD h.kind h.link).1,h.kind,h.mode,h.uid,h.gid,h.time,[]⟩,0)
def knownD (k:UInt8):Bool:=k == 48 || k == 49 || k == 50 || k == 53
def headOfM (m:MemV):HeadV:=⟨m.path,m.target,m.kind,m.mode,m.uid,m.gid,m.time,(m.body.length:Int),false⟩
theorem goodD_is (m:MemV):goodD m=(knownD m.kind && decide ((fromD (headOfM m)).2=0) && decide ((fromD (headOfM m)).1.path=m.path) && decide ((fromD (headOfM m)).1.target=m.target)):=by
 rw [Bool.eq_iff_iff];unfold goodD knownD fromD headOfM cleanOk goalD sizeD;simp only [Bool.and_eq_true,Bool.or_eq_true,decide_eq_true_eq,beq_iff_eq];obtain ⟨⟨cp,ce⟩,hc⟩:∃ x,cleanD 9 6 m.path=x:=⟨_,rfl⟩;obtain ⟨⟨dp,de⟩,hd⟩:∃ x,cleanD 9 6 m.target=x:=⟨_,rfl⟩;rw [hc,hd];have hb:((m.body.length:Int)=0) ↔ m.body=[]:=by rw [← List.length_eq_zero_iff];omega
 have hb2:(1048576 < (m.body.length:Int)) ↔ 1048576 < m.body.length:=by omega
 have hb3:m.body=[] → ¬ 1048576 < m.body.length:=fun h => by rw [h];simp
 simp only [Prod.mk.injEq,ne_eq,hb,hb2]
 by_cases h1:ce=0
 ·by_cases h2:metaOk m.mode m.uid m.gid m.time=false
  ·simp [h1,h2,noM]
  ·have h2':metaOk m.mode m.uid m.gid m.time=true:=by simpa using h2
   by_cases k0:m.kind=48
   ·by_cases h6:1048576 < m.body.length
    ·simp [h1,h2',k0,h6]
     intro _ _;omega
    ·have h7:m.body.length≤1048576:=by omega
     simp [h1,h2',k0,h6,h7,@eq_comm _ [] m.target]
   ·by_cases k1:m.kind=49
    ·by_cases h4:de=0
     ·by_cases h5:m.body=[]
      ·simp [h1,h2',k1,h4,h5]
      ·simp [h1,h2',k1,h4,h5]
     ·simp [h1,h2',k1,h4]
    ·by_cases k2:m.kind=50
     ·by_cases h4:targetD 9 6 m.target=0
      ·by_cases h5:m.body=[]
       ·simp [h1,h2',k2,h4,h5]
       ·simp [h1,h2',k2,h4,h5]
      ·simp [h1,h2',k2,h4]
     ·by_cases k3:m.kind=53
      ·by_cases h5:m.body=[]
       ·simp [h1,h2',k3,h5,@eq_comm _ [] m.target]
       ·simp [h1,h2',k3,h5]
      ·simp [k0,k1,k2,k3]
 ·simp [h1]
end Go.Proofs.YtnpkcneojilmkaaDoor.Mem
end
