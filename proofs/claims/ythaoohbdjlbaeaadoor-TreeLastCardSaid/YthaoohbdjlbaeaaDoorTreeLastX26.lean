/- Texts of this seat, merged: what the proof reaches. -/
import Derived.Test.YthaoohbdjlbaeaaDoorTreeLastX14
import Derived.Test.YthaoohbdjlbaeaaDoorTreeLastX17
import Derived.Test.YthaoohbdjlbaeaaDoorTreeLastX23
import Derived.Test.YthaoohbdjlbaeaaDoorTreeLastX24
import Derived.Test.YthaoohbdjlbaeaaDoorTreeLastX25
import Derived.Shelf.SlIter.Sorted
import Derived.Test.YthaoohbdjlbaeaaDoorTreeLastX21
import Derived.Test.YthaoohbdjlbaeaaDoorTreeLastX16
import Derived.Test.YthaoohbdjlbaeaaDoorTreeLastX22
import Derived.Maps.Own
import Derived.Deep.RegionHeldLaw
namespace Go.Proofs.YthaoohbdjlbaeaaDoor
namespace Base
end Base
namespace Bk
end Bk
namespace Byt
end Byt
namespace Mem
end Mem
namespace Mk
end Mk
namespace Txt
end Txt
end Go.Proofs.YthaoohbdjlbaeaaDoor
section
namespace Go.Proofs.YthaoohbdjlbaeaaDoor.Tre
open Go.ChangeShapes Go.WideShapes Go.ChangeAt Go.RowKit Go.Shelf Base Byt Txt Bk Mk Go.Lib
set_option linter.unusedVariables false
set_option maxRecDepth 100000
theorem lt_of (x y:List UInt8):ltOf cmpD x y=ltB x y:=by
 unfold ltOf;rw [Bool.eq_iff_iff,decide_eq_true_eq,cmpD_lt]
theorem swoB:Go.Sort.SWO (ltOf cmpD) where
 irrefl x:=by rw [lt_of];exact ltB_irrefl x
 trans x y z h1 h2:=by rw [lt_of] at *;exact ltB_trans x y z h1 h2
 ntrans x y z h1 h2:=by
  rw [lt_of] at *
  cases h:ltB x z with
  | false => rfl
  | true => rw [ltB_trans_le h h2] at h1;cases h1
def KeysPost (w:World) (ks:List (List UInt8)) (e:Ending) (w':World):Prop:=
 ∃ (v:Value) (ts:List (List UInt8)),e=.returned v∧ts.Perm ks∧ts.Pairwise (fun a b => ltB a b=true)∧w'.ownsRow w.heap.size 9 1 v ts.length (ts.map fun x => .string (str x))∧Below w.heap.size w w'
theorem keys_any (B:Nat) (w:World):Calls Tryd.prog 46 #[.map (some B)] w fun e w' => e=.returned (.func (.func 58) #[] #[.pointer (some ⟨w.heap.size,0,none⟩)])∧w'=w.alloc (.cells #[.map (some B)] 75):=
 callsIn_wide.1 (AnyZ.keys_in Tryd.laysKeys Fence.wide 4 trivial rfl (some B) w)
theorem strict_of {ts ks:List (List UInt8)} (hp:ts.Perm ks) (hn:ks.Nodup) (hs:ts.Pairwise fun a b => ltB b a=false):ts.Pairwise fun a b => ltB a b=true:=by
 have h2:ts.Nodup:=hp.nodup_iff.2 hn;have:=hs.and h2;refine this.imp fun ⟨h1,h2⟩ => ?_
 exact ltB_of_not h1 (fun e => h2 e.symm)
theorem coll_any (Bm B:Nat) (w:World) {f:List UInt8 → Option Value} (hb:w.cell? ⟨Bm,0,none⟩=some (.map (some B))) (hM:MapK strK w B f) (hlen:∀ x v,f x=some v → x.length≤maxLen) (ks:List (List UInt8)) (hnd:ks.Nodup) (hks:∀ x,x ∈ ks ↔ (f x).isSome=true) (hsz:ks.length≤1000000000) :
 Calls Tryd.prog 56 #[.func (.func 58) #[] #[.pointer (some ⟨Bm,0,none⟩)]] w fun e w' => ∃ (v:Value) (ss:List (List UInt8)),e=.returned v∧ss.Perm ks∧w'.ownsRow w.heap.size 9 1 v ss.length (ss.map encStr)∧(v=.slice none 0 0 ↔ ss=[])∧Below w.heap.size w w':=by
 obtain ⟨D,hD,hperm,hsize⟩:=mapK_owns (P:=Tryd.prog) Tryd.underlying9 hM hlen ks hnd hks (by unfold maxLen;omega)
 have hg:=AnyZ.keys_gives { Tryd.laysKeys with } Fence.wide 4 trivial rfl (by omega) Bm B ks.length D w (World.block_lt_of_cell? _ _ hb) hb hD
 have h:=AnyZ.collect_in Tryd.laysColl Fence.wide 6 trivial trivial rfl (by omega) 58 #[.pointer (some ⟨Bm,0,none⟩)] trivial (enters_of Tryd.func58 (by kernel_rfl) rfl) (fun ss => ss.Perm (strKeys D)) (Maps.size D) (by rw [hsize];unfold maxLen;omega) (by rw [hsize];omega) w hg
 exact (callsIn_wide.1 h).mono fun e w' ⟨v,ss,h1,h2,h3,h4,h5⟩ => ⟨v,ss,h1,h2.trans hperm,h3,h4,h5⟩
set_option maxHeartbeats 2000000 in
theorem sorted_any (Bm B:Nat) (w:World) {f:List UInt8 → Option Value} (hb:w.cell? ⟨Bm,0,none⟩=some (.map (some B))) (hM:MapK strK w B f) (hlen:∀ x v,f x=some v → x.length≤maxLen) (ks:List (List UInt8)) (hnd:ks.Nodup) (hks:∀ x,x ∈ ks ↔ (f x).isSome=true) (hsz:ks.length≤1000000000) :
 Calls Tryd.prog 45 #[.func (.func 58) #[] #[.pointer (some ⟨Bm,0,none⟩)],.func (.func 47) #[] #[]] w (KeysPost w ks):=by
 have HC:=Lib.hid (coll_any Bm B w hb hM hlen ks hnd hks hsz);have HND:=Lib.hid hnd;have HSZ:=Lib.hid hsz;clear hb hM hlen hnd hks hsz
 go_enter Tryd.func45,Tryd.ntmps45
 go_wp2_with fail
 refine HC.out.mono ?_
 rintro e W ⟨v,ss,rfl,hperm,hrow,hnil,hbl⟩;rcases hrow.2 with ⟨rfl,hz⟩ | ⟨gb,cap,cur,rfl,hbase,hgb,r1,r2,r3,r4⟩
 ·have hss:ss=[]:=List.eq_nil_of_length_eq_zero hz
  subst hss;have P:=Lib.hid (And.intro hperm (And.intro hrow hbl));have HS:=Lib.hid (AnyF.slices_SortFunc_none Tryd.laysSortZ none 0 (.func (.func 47) #[] #[]) W);change Hid (Calls Tryd.prog 57 _ _ _) at HS;clear hperm hrow hbl hnil
  go_wp2_with fail
  refine HS.out.mono ?_
  rintro e w2 ⟨rfl,rfl⟩
  go_wp2
  go_ret
  exact ⟨.slice none 0 0,[],rfl,P.out.1,List.Pairwise.nil,by simpa using P.out.2.1,P.out.2.2⟩
 ·have hH:Go.Sort.Holds encStr W gb 0 ss.toArray:=holds_of_block hgb (by simpa using r4)
  have hgl:gb < W.heap.size:=(Array.getElem?_eq_some_iff.1 hgb).1;have hl:ss.length≤1000000000:=by rw [hperm.length_eq];exact HSZ.out
  have cS:=Any.slices_SortFunc Tryd.laysSortF encStr (fun _ => rfl) cmpD swoB 47 #[] gb 0 cap ss.toArray W (enters_of Tryd.func47 (by kernel_rfl) rfl)
   (fun m os dk _ x y => (compare_any x y _).mono fun e w' ⟨h1,h2⟩ => ⟨h1,0,#[],by rw [← h2,Go.Sort.grow_empty];rfl⟩) hH hgl (by simp;omega)
  change Calls Tryd.prog 57 _ _ _ at cS;rw [List.size_toArray] at cS;have HS:=Lib.hid cS;have P:=Lib.hid (And.intro hperm (And.intro hbl (And.intro hbase (And.intro hgb (And.intro r1 (And.intro r2 r3))))));clear cS hperm hbl hnil hrow hH hgl hl r4
  go_wp2_with fail
  refine HS.out.mono ?_
  rintro e w2 ⟨rfl,d',nn,os,hp,hs,rfl⟩;have HD:=Lib.hid (And.intro hp hs);clear hp hs
  go_wp2
  go_ret
  obtain ⟨hperm,hbl,hbase,hgb,r1,r2,r3⟩:=P.out;obtain ⟨⟨hp1,_,hp3⟩,hs⟩:=HD.out;have hsz':d'.toList.length=ss.length:=by simpa using hp1
  have hp4:d'.toList.Perm ss:=by
   have:(d'.extract 0 ss.length).toList.Perm (ss.toArray.extract 0 ss.length).toList:=hp3;have e:ss.length=d'.size:=by simpa using hp1.symm
   simpa [e,List.take_of_length_le (Nat.le_of_eq e)] using this
  refine ⟨_,d'.toList,rfl,hp4.trans hperm,strict_of (hp4.trans hperm) HND.out ?_,?_,hbl.grown (grownBy_sorted _) hbl.size (fun j hj => by cases hj;exact hbase)⟩
  ·refine List.pairwise_iff_getElem.2 fun i j hi hj hij => ?_
   have:=hs i j (Nat.zero_le _) hij (by rw [hsz'] at hj;exact hj)
   rw [lt_of] at this;simp only [Array.length_toList] at hi hj
   simpa [getElem!_pos,hi,hj] using this
  ·rw [hsz']
   have:=ownsRow_sorted (w:=W) (base:=w.heap.size) (n:=nn) (e:=9) (os:=os) (ss:=ss) (ts:=d'.toList) hsz' hbase hgb r1 r2 r3;simp only [Array.toArray_toList] at this;exact this
end Go.Proofs.YthaoohbdjlbaeaaDoor.Tre
end
section
namespace Go.Proofs.YthaoohbdjlbaeaaDoor.Tre
open Go.ChangeShapes Go.WideShapes Go.ChangeAt Go.RowKit Base Byt Txt Bk Mk Mem Go.Lib
set_option linter.unusedVariables false
set_option maxRecDepth 100000
def natK:Keying Nat where
 enc n:=.int .i64 (n:Int)
 kind:=.int .i64
 isKey _:=rfl
 inj a b h:=by injection h with _ h;omega
 same a:=by simp [Instr.sameBits]
def SAt (w:World) (p:Option Addr) (n:Nat) (ts:List (List UInt8)):Prop:=
 0 < n → ∃ b o,p=some ⟨b,o,none⟩∧b < w.heap.size ∧ ∀ i,i < n → w.cell? ⟨b,o+i,none⟩=some (.string (str (ts.getD i [])))
theorem SAt.keptS {w w':World} {S:Nat → Prop} {p:Option Addr} {n:Nat} {ts:List (List UInt8)} (h:SAt w p n ts) (hk:Kept S w w') (hn:∀ k,k < w.heap.size → ¬ S k):SAt w' p n ts:=fun h0 => by
 obtain ⟨b,o,rfl,hb,hc⟩:=h h0;exact ⟨b,o,rfl,Nat.lt_of_lt_of_le hb hk.size,fun i hi => by rw [World.cell?_of_block (hk.block b hb (hn b hb))];exact hc i hi⟩
theorem sat_of_own {w:World} {base:Nat} {e:TypeId} {v:Value} {ts:List (List UInt8)} (h:w.ownsRow base e 1 v ts.length (ts.map fun x => .string (str x))) :
 ∃ p c,v=.slice p ts.length c∧SAt w p ts.length ts:=by
 have h':=h;have hlt:=h.lt;rcases h.2 with ⟨rfl,h0⟩ | ⟨g,cap,cur,rfl,hg,_,h1,h2,_⟩
 ·exact ⟨none,0,by rw [h0],fun hp => by omega⟩
 ·refine ⟨some ⟨g,0,none⟩,cap,rfl,fun h0 => ⟨g,0,rfl,(hlt g rfl).2,fun i hi => ?_⟩⟩
  rw [Nat.zero_add,h'.cellAt i (by omega),List.getElem?_map,List.getElem?_eq_getElem (by omega)]
  simp [List.getD,hi]
def numsN (f:Nat → Option Nat):Nat → Option Value:=fun x => (f x).map fun n => .int .i64 (n:Int)
def TreePost (w:World) (t:List NodeV) (e:Ending) (w':World):Prop:=
 ∃ q d zs,e=.returned (.slice q t.length d)∧zs.map NP.m=t∧NodesAt w' q t.length zs∧t.length≤d∧d≤maxLen∧Below w.heap.size w w'∧(∀ x,q=some x → w.heap.size≤x.block)∧(∀ y ∈ zs,∀ x,y.p=some x → w.heap.size≤x.block)
structure TI (w w4 wr:World) (gt bl g B:Nat) (p:Option Addr) (n c:Nat) (ms:List MemV) (S T:St) (k:Nat) (zs:List NP):Prop where
 bel:Below w.heap.size w wr
 kp:Kept (twoB gt (some bl)) w4 wr
 lay:LayAt wr g B p n c (look S)
 row:Rw wr gt zs
 len:zs.length=T.length
 map:MapK natK wr bl (numsN (leads ms T k))
 done:∀ j,j < k → (zs.getD j zeroQ).m=nodeD ms T (T.getD j ([],0))
 rest:∀ j,k≤j → zs.getD j zeroQ=zeroQ
 bods:∀ x ∈ zs,BodAt wr x ∧ ∀ a,x.p=some a → w4.heap.size≤a.block
theorem TI.step {w w4 wr W':World} {gt bl g B:Nat} {p:Option Addr} {n c:Nat} {ms:List MemV} {S T:St} {k:Nat} {zs:List NP} (hI:TI w w4 wr gt bl g B p n c ms S T k zs) (hk:k < T.length) (hkp:Kept (twoB gt (some bl)) wr W') (hb:Below w.heap.size w W')
 (hw:w.heap.size≤gt∧w.heap.size≤bl∧gt < w4.heap.size∧bl < w4.heap.size) (hlt:g < w.heap.size∧B < w.heap.size) {y:NP} (hrow:Rw W' gt (zs.set k y)) (hmap:MapK natK W' bl (numsN (leads ms T (k+1)))) (hy:y.m=nodeD ms T (T.getD k ([],0))) (hby:BodAt W' y) (hya:∀ a,y.p=some a → w4.heap.size≤a.block) :
 TI w w4 W' gt bl g B p n c ms S T (k+1) (zs.set k y):=by
 have hkz:k < zs.length:=by rw [hI.len];exact hk
 have off:∀ b,b < w.heap.size → ¬ twoB gt (some bl) b:=fun b hb h => by
  rcases h with h | h
  ·omega
  ·cases h;omega
 refine ⟨hb,hI.kp.trans hkp,⟨hI.lay.obj.keptS hkp (off g hlt.1),hI.lay.map.kept hkp (off B hlt.2)⟩,hrow,by rw [List.length_set];exact hI.len,hmap,fun j hj => ?_,fun j hj => ?_,fun x hx => ?_⟩
 ·rw [getSet zs k j y hkz]
  by_cases h:j=k
  ·rw [if_pos h,h];exact hy
  ·rw [if_neg h];exact hI.done j (by omega)
 ·rw [getSet zs k j y hkz,if_neg (by omega)]
  exact hI.rest j (by omega)
 ·rcases List.mem_or_eq_of_mem_set hx with hx | rfl
  ·obtain ⟨h1,h2⟩:=hI.bods x hx
   refine ⟨h1.kept hkp (fun _ a ha h => ?_),h2⟩
   have:=h2 a ha;rcases h with h | h
   ·omega
   ·injection h with h;omega
  ·exact ⟨hby,hya⟩
theorem mcells {W:World} {b:Nat} {y:MP} (h:Blk W b 45 y.cs) :
 W.cell? ⟨b,1,none⟩=some (.string (str y.m.target))∧W.cell? ⟨b,2,none⟩=some (.int .u8 (y.m.kind.toNat:Int))∧W.cell? ⟨b,3,none⟩=some (.int .i64 y.m.mode)∧W.cell? ⟨b,4,none⟩=some (.int .i64 y.m.uid)∧W.cell? ⟨b,5,none⟩=some (.int .i64 y.m.gid)∧W.cell? ⟨b,6,none⟩=some (.int .i64 y.m.time)∧W.cell? ⟨b,7,none⟩=some (.slice y.p y.m.body.length y.c):=
 ⟨h.cell 1,h.cell 2,h.cell 3,h.cell 4,h.cell 5,h.cell 6,h.cell 7⟩
theorem numsK_some (S:St) (x:List UInt8):(numsK (look S) x).isSome=(look S x).isSome:=by
 unfold numsK
 cases look S x<;>rfl
set_option maxHeartbeats 16000000 in
theorem tree_any (g B:Nat) (p:Option Addr) (n c:Nat) (xs:List MP) (S:St) (w:World) (hM:MemsAt w p n xs) (hn:n≤1000000000) (hL:LayAt w g B p n c (look S)) (hA:Apart S) (hS:InS S n) (hsz:S.length≤1000000) (hlen:∀ e ∈ S,e.1.length≤maxLen) (hR:∀ x ∈ xs,x.m.body.length≤140737488351232) :
 Calls Tryd.prog 29 #[.pointer (some ⟨g,0,none⟩)] w (TreePost w (treeD (xs.map MP.m) S)):=by
 obtain ⟨i0,hi,hz0,hz1,hz2⟩:=info_parts infoNod;have HI:=Lib.hid hi;have HZ0:=Lib.hid hz0;have HZ1:=Lib.hid hz1;have HZ2:=Lib.hid hz2;have hmm:=@run_makeMap Tryd.prog;have HM:=Lib.hid hM;have HLN:=Lib.hid hM.1;have HL:=Lib.hid hL;have HA:=Lib.hid hA;have HS:=Lib.hid hS;have HLEN:=Lib.hid hlen;have HRB:=Lib.hid hR;have g1:=hL.obj.cell 1;simp only [List.getElem?_toArray,List.getElem?_cons_zero,List.getElem?_cons_succ] at g1;have HK1:=Lib.hid (keys_any B w);have hW1:Below w.heap.size w (w.alloc (.cells #[.map (some B)] 75)):=(Below.refl _ _).alloc (Nat.le_refl _) _
 have hL1:=hL.below hW1
 have HK2:=Lib.hid (sorted_any w.heap.size B (w.alloc (.cells #[.map (some B)] 75)) ((Blk.new w 75 #[.map (some B)]).cell 0) hL1.map (fun x v hv => by
  have:x ∈ S.map (·.1):=(look_isSome x).1 (by rw [← numsK_some,hv];rfl)
  obtain ⟨e,he,rfl⟩:=List.mem_map.1 this
  exact hlen e he) (S.map fun e:List UInt8 × Nat => e.1) hA (fun x => by rw [numsK_some,look_isSome]) (by rw [List.length_map];omega))
 have HW1:=Lib.hid hW1;have HSZ:=Lib.hid hsz;clear hi hz0 hz1 hz2 hM hL hA hS hlen hR hL1 hW1 hsz
 go_enter Tryd.func29,Tryd.ntmps29
 go_wp2_with fail
 refine HK1.out.mono ?_
 rintro e w1 ⟨rfl,rfl⟩
 go_wp2_with fail
 refine HK2.out.mono ?_
 rintro e w2 ⟨v,ts,rfl,hperm,hrise,hrow,hb2⟩;obtain ⟨p3,c3,rfl,hsat⟩:=sat_of_own hrow;have HB2:=Lib.hid (HW1.out.trans (hb2.mono HW1.out.size));have HSAT:=Lib.hid hsat;have HPR:=Lib.hid (And.intro hperm hrise);have hml:ts.length=S.length:=by rw [hperm.length_eq,List.length_map]
 have HML:=Lib.hid hml;obtain ⟨m,hm⟩:∃ m,ts.length=m:=⟨_,rfl⟩;rw [hm] at HSAT HML ⊢;have HTM:=Lib.hid hm;have hm1:m≤1000000:=by rw [← hm,hml];exact HSZ.out
 clear hperm hrise hrow hb2 hsat hml hm g1 HK1 HK2
 go_wp2_with (at_make;refine wpList_make_full _ rfl _ _ 25 rfl w2.heap.size 38 i0 _ 9 Tryd.underlying25 HI.out HZ0.out HZ1.out .i64 .i64 _ _ m rfl rfl rfl rfl ?mk1 ?mk2 (Nat.le_refl _) ?_)
 case mk1 => rw [HZ2.out];omega
 case mk2 => unfold maxLen;omega
 intro w3 hmade hgrow
 have hrw:=rw_made (B:=w2.heap.size) (w':=w3) (g:=w2.heap.size) (n:=m) (by
  have h9:=hmade;rw [made_nodes] at h9
  exact h9)
 have hk3:Kept noneB w2 w3:=(Kept.refl noneB w2).grown hgrow (fun k h => by cases h)
 have hb3:Below w2.heap.size w2 w3:=hk3.below (Nat.le_refl _) (fun _ h => h.elim)
 have HRW:=Lib.hid hrw;have HB3:=Lib.hid hb3;have HSZ3:Hid (w2.heap.size < w3.heap.size):=Lib.hid (Blk.lt hrw);clear hmade hgrow hrw hk3 hb3;obtain ⟨w4,hw4⟩:∃ w4,w3.alloc (.map #[] 0)=w4:=⟨_,rfl⟩;have hb4:Below w3.heap.size w3 w4:=by rw [← hw4];exact (Below.refl _ _).alloc (Nat.le_refl _) _
 have hmp:MapK natK w4 w3.heap.size (fun _ => none):=by rw [← hw4];exact mapK_made natK w3
 have hsz4:w4.heap.size=w3.heap.size+1:=by rw [← hw4];simp
 obtain ⟨T,hT⟩:∃ T,sortS S=T:=⟨_,rfl⟩;have HT:Hid (T=ts.map fun x => (x,(look S x).getD 0)):=Lib.hid (by rw [← hT];exact keys_sort HA.out HPR.out.1 HPR.out.2)
 have HTD:Hid (treeD (xs.map MP.m) S=T.map (nodeD (xs.map MP.m) T)):=Lib.hid (by rw [treeD,hT])
 have HTL:Hid (T.length=m):=Lib.hid (by rw [HT.out,List.length_map,HTM.out])
 have HB4:=Lib.hid (HB2.out.trans ((HB3.out.trans (hb4.mono HB3.out.size)).mono HB2.out.size));have HSAT4:Hid (SAt w4 p3 m ts):=Lib.hid (HSAT.out.keptS (Kept.of_below (HB3.out.trans (hb4.mono HB3.out.size)) noneB) (fun _ _ h => h.elim))
 have HP3:Hid (0 < m → ∀ a,p3=some a → a.block < w2.heap.size):=Lib.hid (fun h0 a ha => by
  obtain ⟨b,o,he,hb,_⟩:=HSAT.out h0;rw [ha] at he
  cases he
  exact hb)
 have HTI:Hid (TI w w4 w4 w2.heap.size w3.heap.size g B p n c (xs.map MP.m) S T 0 (List.replicate m zeroQ)):=Lib.hid
  { bel:=HB4.out,kp:=Kept.refl _ _,lay:=HL.out.below HB4.out,row:=Blk.below HRW.out hb4 HSZ3.out,len:=by rw [List.length_replicate,HTL.out]
    map:=by
     have e:numsN (leads (xs.map MP.m) T 0)=fun _ => none:=by funext n;unfold numsN;rw [leads_zero];rfl
     rw [e];exact hmp
    done:=fun j hj => by omega
    rest:=fun j _ => by
     rw [List.getD,List.getElem?_replicate]
     split<;>rfl
    bods:=fun x hx => by
     rw [(List.mem_replicate.1 hx).2]
     exact ⟨zero_bod _,fun a h => by cases h⟩ }
 have HSZ4:=Lib.hid hsz4;clear hb4 hmp hT HRW HB3 HSAT hsz4
 go_upto_region 4 with fail
 clear hw4 hmm
 go_wp2_with fail
 go_loopw [6,7,8,9,10,11,24,59] (fun _ _ _ _ _ _ i _ wr => ∃ (k:Nat) (zs:List NP),k≤m∧i=.int .i64 (k:Int)∧Hid (TI w w4 wr w2.heap.size w3.heap.size g B p n c (xs.map MP.m) S T k zs)) (fun _ _ _ _ _ _ i _ _ => m - (RowKit.intOf i).toNat)
 case atStart => exact ⟨0,List.replicate m zeroQ,Nat.zero_le _,rfl,HTI⟩
 case round =>
  obtain ⟨k,zs,hk,rfl,hI⟩:=hrel
  by_cases hlt:k < m
  ·have hkT:k < T.length:=by rw [HTL.out];exact hlt
   have hkz:k < zs.length:=by rw [hI.out.len];exact hkT
   have hkt:k < ts.length:=by rw [HTM.out];exact hlt
   obtain ⟨x,hx⟩:∃ x,ts.getD k []=x:=⟨_,rfl⟩;have hxm:x ∈ ts:=by rw [← hx,List.getD,List.getElem?_eq_getElem hkt];exact List.getElem_mem hkt
   obtain ⟨nn,hnn⟩:=Option.isSome_iff_exists.1 ((look_isSome x).2 (HPR.out.1.mem_iff.1 hxm))
   have hTk:T.getD k ([],0)=(x,nn):=by
    rw [HT.out,List.getD,List.getElem?_map,List.getElem?_eq_getElem hkt];rw [List.getD,List.getElem?_eq_getElem hkt] at hx;simp only [Option.getD_some] at hx;simp only [Option.map_some,Option.getD_some,hx,hnn]
   have hnl:nn < n:=HS.out.look hnn
   have hwz:w.heap.size≤w2.heap.size∧w.heap.size≤w3.heap.size∧w2.heap.size < w4.heap.size∧w3.heap.size < w4.heap.size:=by
    have h1:=HB2.out.size;have h2:=HSZ3.out;have h3:=HSZ4.out;omega
   have hgB:g < w.heap.size∧B < w.heap.size:=⟨HL.out.obj.lt,HL.out.map.lt⟩;obtain ⟨b3,o3,hp3,hb3,hc3⟩:=HSAT4.out (by omega)
   have hb3g:=HP3.out (by omega) _ hp3
   subst hp3
   have hb3k:¬ twoB w2.heap.size (some w3.heap.size) b3:=fun h => by
    have h3:=HSZ3.out;rcases h with h | h
    ·simp only at hb3g;omega
    ·injection h with h;simp only at hb3g;omega
   have HKEY:Hid (∀ W',Kept (twoB w2.heap.size (some w3.heap.size)) w4 W' → ∀ i,i < m → W'.cell? ⟨b3,o3+i,none⟩=some (.string (str (ts.getD i [])))):=Lib.hid (fun W' hk i hi => by
    rw [World.cell?_of_block (hk.block b3 hb3 hb3k)];exact hc3 i hi)
   have z0:=HKEY.out wr hI.out.kp k hlt;rw [hx] at z0;have g0:=hI.out.lay.obj.cell 0;have g1:=hI.out.lay.obj.cell 1;simp only [List.getElem?_toArray,List.getElem?_cons_zero,List.getElem?_cons_succ] at g0 g1
   have lk:(Instr.lookup 75 (.map (some B)) (.string (str x)) false).run Tryd.prog wr=.ok (.int .i64 (nn:Int)) wr:=by
    have h:=hI.out.lay.map.look (P:=Tryd.prog) Tryd.underlying75 Tryd.underlying9 (z:=.int .i64 0) (fun w => Tryd.zeroValue3 w) x
    rw [show numsK (look S) x=some (.int .i64 (nn:Int)) by rw [numsK,hnn];rfl] at h
    exact h
   obtain ⟨b1,o1,hp1,hb1,hBd,hcm⟩:=(HM.out.below hI.out.bel).cells8 hnl;subst hp1;have hG0:=getM_map xs nn;have hRY:=HRB.out _ (getP_mem xs nn (by rw [HLN.out];exact hnl))
   obtain ⟨y,hy⟩:∃ y,xs.getD nn zeroP=y:=⟨_,rfl⟩;rw [hy] at hBd hcm hG0 hRY;obtain ⟨c0,c1,c2,c3,c4,c5,c6,c7⟩:=hcm;obtain ⟨W5,hW5⟩:∃ W5,wr.alloc (.cells y.cs 45)=W5:=⟨_,rfl⟩;have hB5:Below wr.heap.size wr W5:=by rw [← hW5];exact (Below.refl _ _).alloc (Nat.le_refl _) _
   have hBM:Blk W5 wr.heap.size 45 y.cs:=by rw [← hW5];exact Blk.new wr _ _
   have HB5:=Lib.hid hB5;have HBM:=Lib.hid hBM;have HCC:Hid (∀ w',Below W5.heap.size W5 w' → w'.cell? ⟨wr.heap.size,1,none⟩=some (.string (str y.m.target))∧w'.cell? ⟨wr.heap.size,2,none⟩=some (.int .u8 (y.m.kind.toNat:Int))∧w'.cell? ⟨wr.heap.size,3,none⟩=some (.int .i64 y.m.mode)∧w'.cell? ⟨wr.heap.size,4,none⟩=some (.int .i64 y.m.uid)∧w'.cell? ⟨wr.heap.size,5,none⟩=some (.int .i64 y.m.gid)∧w'.cell? ⟨wr.heap.size,6,none⟩=some (.int .i64 y.m.time)∧w'.cell? ⟨wr.heap.size,7,none⟩=some (.slice y.p y.m.body.length y.c)):=Lib.hid (fun w' h => mcells (hBM.below h hBM.lt))
   have HBB:Hid (Below W5.heap.size W5 W5.drew):=Lib.hid (below_drewN (Below.refl W5.heap.size W5) 1);have HCL:Hid (∀ w',Below W5.heap.size W5 w' → Calls Tryd.prog 36 #[.slice y.p y.m.body.length y.c] w' (ClonePost w' y.m.body.length y.m.body)):=Lib.hid (fun w' h => clone_any y.p y.m.body.length y.c y.m.body w' ((hBd.below hB5).below h).bat rfl hRY)
   unfold ClonePost at HCL;have HK0:=Lib.hid (And.intro hkT (And.intro hkz (And.intro hTk (And.intro hwz hgB))));have HG0:=Lib.hid hG0;have HGTR:Hid (w2.heap.size < wr.heap.size):=Lib.hid (Blk.lt hI.out.row);have hnz:(nn:Int) < (n:Int):=by omega
   have hn0:(0:Int)≤(nn:Int):=by omega
   have hkzz:(k:Int) < (m:Int):=by omega
   unfold MP.cs memC at hW5;have HX:=Lib.hid hx;clear hkT hkz hkt hxm hTk hnl hwz hgB hb3 hc3 hb3g hb3k hb1 hBd hG0 hRY hy hB5 hBM hnn hx
   go_upto_region 9 with fail
   clear hW5 c0 c1 c2 c3 c4 c5 c6 c7 g0 g1 lk z0
   go_wp2_with fail
   go_region_held_law (fun w' => w'.cell? ⟨wr.heap.size,1,none⟩=some (.string (str y.m.target))∧w'.cell? ⟨wr.heap.size,2,none⟩=some (.int .u8 (y.m.kind.toNat:Int))∧w'.cell? ⟨wr.heap.size,3,none⟩=some (.int .i64 y.m.mode)∧w'.cell? ⟨wr.heap.size,4,none⟩=some (.int .i64 y.m.uid)∧w'.cell? ⟨wr.heap.size,5,none⟩=some (.int .i64 y.m.gid)∧w'.cell? ⟨wr.heap.size,6,none⟩=some (.int .i64 y.m.time)∧w'.cell? ⟨wr.heap.size,7,none⟩=some (.slice y.p y.m.body.length y.c)) (first | with_reducible exact HCC.out _ HBB.out | exact mcells (rw_other HBA.out (Nat.ne_of_lt HGTR.out) _ _ _ _ _ _ _ _ _)) (first
    | (go_at_call 36
       refine (HCL.out _ ?_).mono ?_
       (with_reducible exact HBB.out)
       rintro e wa ⟨q,d,rfl,hle,hmx,hbt,hnew,hba⟩;have HBB:=Lib.hid (HBB.out.trans (hba.mono HBB.out.size));have HBA:=Lib.hid (HBM.out.below HBB.out HBM.out.lt);have hro:Rw wa w2.heap.size zs:=Blk.below (Blk.below hI.out.row HB5.out HGTR.out) HBB.out (Nat.lt_of_lt_of_le HGTR.out HB5.out.size);have HROW:=Lib.hid hro;have P:=Lib.hid (And.intro hle (And.intro hmx (And.intro hbt hnew)));obtain ⟨r0,r1,r2,r3,r4,r5,r6,r7,r8⟩:=hro.cells9 HK0.out.2.1;have f0:=Blk.frozen hro (k * 9);have f1:=Blk.frozen hro (k * 9+1);have f2:=Blk.frozen hro (k * 9+2);have f3:=Blk.frozen hro (k * 9+3)
       have f4:=Blk.frozen hro (k * 9+4);have f5:=Blk.frozen hro (k * 9+5);have f6:=Blk.frozen hro (k * 9+6);have f7:=Blk.frozen hro (k * 9+7);have f8:=Blk.frozen hro (k * 9+8)
       clear hle hmx hbt hnew hba hro))
   obtain ⟨W6,hW6⟩:∃ W6,(((((((((wa.setCell ⟨w2.heap.size,k * 9,none⟩ (.string (str x))).setCell ⟨w2.heap.size,k * 9+1,none⟩ (.string (str y.m.target))).setCell ⟨w2.heap.size,k * 9+2,none⟩ (.string ⟨#[]⟩)).setCell ⟨w2.heap.size,k * 9+3,none⟩ (.int .u8 (y.m.kind.toNat:Int))).setCell ⟨w2.heap.size,k * 9+4,none⟩ (.int .i64 y.m.mode)).setCell ⟨w2.heap.size,k * 9+5,none⟩ (.int .i64 y.m.uid)).setCell ⟨w2.heap.size,k * 9+6,none⟩ (.int .i64 y.m.gid)).setCell ⟨w2.heap.size,k * 9+7,none⟩ (.int .i64 y.m.time)).setCell ⟨w2.heap.size,k * 9+8,none⟩ (.slice q y.m.body.length d))=W6:=⟨_,rfl⟩
   have hk6:Kept (oneB w2.heap.size) wa W6:=by rw [← hW6];exact rw_kept (S:=oneB w2.heap.size) rfl _ _ _ _ _ _ _ _ _
   have hr6:Rw W6 w2.heap.size (zs.set k ⟨nodeM x y.m [],q,d⟩):=by rw [← hW6];exact HROW.out.set HK0.out.2.1 ⟨nodeM x y.m [],q,d⟩
   have hm6:Blk W6 wr.heap.size 45 y.cs:=by rw [← hW6];exact rw_other HBA.out (Nat.ne_of_lt HGTR.out) _ _ _ _ _ _ _ _ _
   rw [hW6];clear hW6 r0 r1 r2 r3 r4 r5 r6 r7 r8 f0 f1 f2 f3 f4 f5 f6 f7 f8;have hwa:Below wr.heap.size wr wa:=HB5.out.trans (HBB.out.mono HB5.out.size);have HKP6:Hid (Kept (twoB w2.heap.size (some w3.heap.size)) wr W6):=Lib.hid ((Kept.of_below hwa _).trans (hk6.mono (fun k h => .inl h)))
   have HQB:Hid (∀ a,q=some a → w4.heap.size≤a.block):=Lib.hid (fun a ha => by
    have h1:=P.out.2.2.2 a ha;have h2:=HB5.out.size;have h3:=hI.out.kp.size;have h4:W5.heap.size≤a.block:=h1
    omega)
   have HY6:Hid (BodAt W6 ⟨nodeM x y.m [],q,d⟩):=Lib.hid ⟨P.out.2.2.1.kept hk6 (fun _ a ha h => by
    have h1:=HQB.out a ha;have h2:a.block=w2.heap.size:=h;have h3:=HK0.out.2.2.2.1.2.2.1
    omega),P.out.1,P.out.2.1⟩
   have HM6:Hid (MapK natK W6 w3.heap.size (numsN (leads (xs.map MP.m) T k))):=Lib.hid ((hI.out.map.kept (Kept.of_below hwa noneB) (fun h => h.elim)).kept hk6 (fun e => by have h1:=HSZ3.out;have h2:w3.heap.size=w2.heap.size:=e;omega))
   have HR6:=Lib.hid hr6
   have HND:Hid (nodeD (xs.map MP.m) T (T.getD k ([],0))=nodeM x y.m (if y.m.kind=48 then leadD T nn else [])):=Lib.hid (by
    rw [HK0.out.2.2.1];unfold nodeD
    rw [HG0.out])
   have y2:=hm6.cell 2;have ek:=kind_ne1 y.m.kind 48 48 rfl;obtain ⟨kn,hkn⟩:∃ kn:Int,(y.m.kind.toNat:Int)=kn:=⟨_,rfl⟩;simp only [MP.cs,memC,List.getElem?_toArray,List.getElem?_cons_zero,List.getElem?_cons_succ] at y2;rw [hkn] at y2 ek;clear hwa hk6 hr6 hm6 hkn
   by_cases h48:y.m.kind=48
   ·rw [decide_eq_true h48] at ek
    have H48:=Lib.hid h48;have HKG:Hid (((xs.map MP.m).getD (T.getD k ([],0)).2 zeroMv).kind=48):=Lib.hid (by rw [HK0.out.2.2.1,HG0.out];exact h48)
    have HLK:=Lib.hid (HM6.out.look_ok (P:=Tryd.prog) Tryd.underlying84 Tryd.underlying3 (z:=.int .i64 0) (fun w => Tryd.zeroValue3 w) nn)
    have HT2:Hid ((T.getD k ([],0)).2=nn):=Lib.hid (by rw [HK0.out.2.2.1])
    obtain ⟨fo,hfo⟩:∃ fo,leads (xs.map MP.m) T k nn=fo:=⟨_,rfl⟩;have HFO:=Lib.hid hfo;unfold numsN at HLK;rw [hfo] at HLK;clear h48 hfo
    cases fo with
    | none =>
      have lk2:(Instr.lookup 84 (.map (some w3.heap.size)) (.int .i64 (nn:Int)) true).run Tryd.prog W6=.ok (.tuple #[.int .i64 0,.bool false]) W6:=HLK.out;clear HLK
      go_wp2_with (at_mapUpdate;refine wpList_putK (K:=natK) rfl (.tmp 68) (.tmp 69) (.tmp 70) rfl Tryd.underlying84 Tryd.underlying3 w3.heap.size HM6.out rfl nn rfl (.int .i64 (k:Int)) rfl ?_)
      intro w7 hm7 hk7 hs7;have hk7':Kept (twoB w2.heap.size (some w3.heap.size)) W6 w7:=hk7.out.mono (fun k h => .inr (by rw [show k=w3.heap.size from h]))
      have HKP7:=Lib.hid (HKP6.out.trans hk7');have hr7:Rw w7 w2.heap.size (zs.set k ⟨nodeM x y.m [],q,d⟩):=Blk.keptS HR6.out hk7.out (fun e => by have h1:=HSZ3.out;have h2:w2.heap.size=w3.heap.size:=e;omega)
      have z0:=HKEY.out w7 (hI.out.kp.trans HKP7.out) k hlt;rw [HX.out] at z0
      have hMP:MapK natK w7 w3.heap.size (numsN (leads (xs.map MP.m) T (k+1))):=by
       have e:=leads_new HK0.out.1 HKG.out (by rw [HT2.out];exact HFO.out)
       have e2:numsN (leads (xs.map MP.m) T (k+1))=fun y => if y=nn then some (.int .i64 (k:Int)) else numsN (leads (xs.map MP.m) T k) y:=by
        funext v
        unfold numsN;rw [e,HT2.out]
        by_cases h:v=nn<;>simp [h]
       rw [e2];exact hm7.out
      have hLD:leadD T nn=x:=by
       have h:=leads_lead HK0.out.1 HKG.out;rw [HT2.out,HFO.out,Option.getD_none,HK0.out.2.2.1] at h;exact h
      have HN:Hid (TI w w4 (w7.setCell ⟨w2.heap.size,k * 9+2,none⟩ (.string (str x))) w2.heap.size w3.heap.size g B (some ⟨b1,o1,none⟩) n c (xs.map MP.m) S T (k+1) (zs.set k ⟨nodeM x y.m x,q,d⟩)):=by
       have hkp:Kept (twoB w2.heap.size (some w3.heap.size)) wr (w7.setCell ⟨w2.heap.size,k * 9+2,none⟩ (.string (str x))):=HKP7.out.setCell (a:=⟨w2.heap.size,k * 9+2,none⟩) (.inr (.inl rfl)) _;have hset:Kept (oneB w2.heap.size) w7 (w7.setCell ⟨w2.heap.size,k * 9+2,none⟩ (.string (str x))):=(Kept.refl (oneB w2.heap.size) _).setCell (a:=⟨w2.heap.size,k * 9+2,none⟩) (.inr rfl) _;obtain ⟨hkT,hkz,hTk,hwz,hgB⟩:=HK0.out
       have hrow:Rw (w7.setCell ⟨w2.heap.size,k * 9+2,none⟩ (.string (str x))) w2.heap.size (zs.set k ⟨nodeM x y.m x,q,d⟩):=by
        have h:=Rw.lead (k:=k) hr7 (by rw [List.length_set];exact hkz) x
        rw [List.set_set,getSet zs k k _ hkz,if_pos rfl] at h;exact h
       refine Lib.hid (hI.out.step hkT hkp (hI.out.bel.trans (hkp.below hI.out.bel.size (fun b hb => by
        rcases hb with hb | hb
        ·rw [hb];exact hwz.1
        ·injection hb with hb;rw [hb];exact hwz.2.1))) hwz hgB hrow (hMP.kept hset (fun e => by have h1:=HSZ3.out;have h2:w3.heap.size=w2.heap.size:=e;omega)) ?_ ?_ ?_)
       ·rw [HND.out]
        show nodeM x y.m x=_;rw [if_pos H48.out,hLD]
       ·exact ⟨(HY6.out.bat.kept (hk7'.setCell (a:=⟨w2.heap.size,k * 9+2,none⟩) (.inr (.inl rfl)) _) (fun _ a ha h => by
         have h1:=HQB.out a ha;rcases h with h | h
         ·omega
         ·injection h with h;omega)),HY6.out.le,HY6.out.mx⟩
       ·exact HQB.out
      have r2:=(hr7.cells9 (show k < (zs.set k ⟨nodeM x y.m [],q,d⟩).length by rw [List.length_set];exact HK0.out.2.1)).2.2.1
      have f2:=Blk.frozen hr7 (k * 9+2);have hkm:(k:Int) < (m:Int):=by omega
      clear hk7' hr7 hMP hLD hm7 hk7 hs7
      go_wp2
      go_roundw
      case rel => exact ⟨k+1,_,by omega,by go_num,HN⟩
      case measure => simp [RowKit.intOf];omega
    | some f =>
      have hfk:=leads_lt HFO.out;have hfm:f < m:=by omega
      have lk2:(Instr.lookup 84 (.map (some w3.heap.size)) (.int .i64 (nn:Int)) true).run Tryd.prog W6=.ok (.tuple #[.int .i64 (f:Int),.bool true]) W6:=HLK.out;obtain ⟨l,hl⟩:∃ l,ts.getD f []=l:=⟨_,rfl⟩;have z0:=HKEY.out W6 (hI.out.kp.trans HKP6.out) f hfm;rw [hl] at z0
      have hMP:MapK natK W6 w3.heap.size (numsN (leads (xs.map MP.m) T (k+1))):=by
       rw [leads_old HK0.out.1 (by rw [HT2.out];exact HFO.out)]
       exact HM6.out
      have hLD:leadD T nn=l:=by
       have h:=leads_lead HK0.out.1 HKG.out;rw [HT2.out,HFO.out,Option.getD_some] at h;rw [h,← hl,HT.out,List.getD,List.getD,List.getElem?_map,List.getElem?_eq_getElem (show f < ts.length by rw [HTM.out];exact hfm)]
       rfl
      have hr7:=HR6.out
      have HN:Hid (TI w w4 (W6.setCell ⟨w2.heap.size,k * 9+2,none⟩ (.string (str l))) w2.heap.size w3.heap.size g B (some ⟨b1,o1,none⟩) n c (xs.map MP.m) S T (k+1) (zs.set k ⟨nodeM x y.m l,q,d⟩)):=by
       have hkp:Kept (twoB w2.heap.size (some w3.heap.size)) wr (W6.setCell ⟨w2.heap.size,k * 9+2,none⟩ (.string (str l))):=HKP6.out.setCell (a:=⟨w2.heap.size,k * 9+2,none⟩) (.inr (.inl rfl)) _;have hset:Kept (oneB w2.heap.size) W6 (W6.setCell ⟨w2.heap.size,k * 9+2,none⟩ (.string (str l))):=(Kept.refl (oneB w2.heap.size) _).setCell (a:=⟨w2.heap.size,k * 9+2,none⟩) (.inr rfl) _;obtain ⟨hkT,hkz,hTk,hwz,hgB⟩:=HK0.out
       have hrow:Rw (W6.setCell ⟨w2.heap.size,k * 9+2,none⟩ (.string (str l))) w2.heap.size (zs.set k ⟨nodeM x y.m l,q,d⟩):=by
        have h:=Rw.lead (k:=k) hr7 (by rw [List.length_set];exact hkz) l
        rw [List.set_set,getSet zs k k _ hkz,if_pos rfl] at h;exact h
       refine Lib.hid (hI.out.step hkT hkp (hI.out.bel.trans (hkp.below hI.out.bel.size (fun b hb => by
        rcases hb with hb | hb
        ·rw [hb];exact hwz.1
        ·injection hb with hb;rw [hb];exact hwz.2.1))) hwz hgB hrow (hMP.kept hset (fun e => by have h1:=HSZ3.out;have h2:w3.heap.size=w2.heap.size:=e;omega)) ?_ ?_ ?_)
       ·rw [HND.out]
        show nodeM x y.m l=_;rw [if_pos H48.out,hLD]
       ·exact ⟨(HY6.out.bat.kept ((Kept.refl (twoB w2.heap.size (some w3.heap.size)) W6).setCell (a:=⟨w2.heap.size,k * 9+2,none⟩) (.inr (.inl rfl)) _) (fun _ a ha h => by
         have h1:=HQB.out a ha;rcases h with h | h
         ·omega
         ·injection h with h;omega)),HY6.out.le,HY6.out.mx⟩
       ·exact HQB.out
      have r2:=(hr7.cells9 (show k < (zs.set k ⟨nodeM x y.m [],q,d⟩).length by rw [List.length_set];exact HK0.out.2.1)).2.2.1
      have f2:=Blk.frozen hr7 (k * 9+2);have hkm:(k:Int) < (m:Int):=by omega
      have hfz:(f:Int) < (m:Int):=by omega
      have hf0:(0:Int)≤(f:Int):=by omega
      clear hr7 hMP hLD hl HLK
      go_wp2
      go_roundw
      case rel => exact ⟨k+1,_,by omega,by go_num,HN⟩
      case measure => simp [RowKit.intOf];omega
   ·rw [decide_eq_false h48] at ek
    have HN:Hid (TI w w4 W6 w2.heap.size w3.heap.size g B (some ⟨b1,o1,none⟩) n c (xs.map MP.m) S T (k+1) (zs.set k ⟨nodeM x y.m [],q,d⟩)):=by
     obtain ⟨hkT,hkz,hTk,hwz,hgB⟩:=HK0.out
     refine Lib.hid (hI.out.step hkT HKP6.out (hI.out.bel.trans (HKP6.out.below hI.out.bel.size (fun b hb => by
      rcases hb with hb | hb
      ·rw [hb];exact hwz.1
      ·injection hb with hb;rw [hb];exact hwz.2.1))) hwz hgB HR6.out ?_ ?_ HY6.out HQB.out)
     ·rw [leads_other hkT (by rw [hTk,HG0.out];exact h48)]
      exact HM6.out
     ·rw [HND.out,if_neg h48]
    clear h48
    go_wp2
    go_roundw
    case rel => exact ⟨k+1,_,by omega,by go_num,HN⟩
    case measure => simp [RowKit.intOf];omega
  ·have hks:¬ ((k:Int) < (m:Int)):=by omega
   have P:Hid (zs.map NP.m=treeD (xs.map MP.m) S∧NodesAt wr (some ⟨w2.heap.size,0,none⟩) (treeD (xs.map MP.m) S).length zs∧(treeD (xs.map MP.m) S).length=m):=Lib.hid (by
    have hl:=hI.out.len;have hkm:k=T.length:=by rw [HTL.out];omega
    have e:zs.map NP.m=treeD (xs.map MP.m) S:=by
     rw [HTD.out];apply List.ext_getElem
     ·rw [List.length_map,List.length_map,hl]
     ·intro i h1 h2
      rw [List.length_map] at h1 h2;have:=hI.out.done i (by omega)
      rw [List.getD,List.getElem?_eq_getElem h1,List.getD,List.getElem?_eq_getElem h2] at this
      simpa using this
    have hlen:(treeD (xs.map MP.m) S).length=m:=by rw [HTD.out,List.length_map,HTL.out]
    refine ⟨e,?_,hlen⟩;have:=hI.out.row.nodes (fun x hx => (hI.out.bods x hx).1)
    rw [hl,HTL.out] at this
    rw [hlen];exact this)
   go_wp2
   go_ret
   refine ⟨some ⟨w2.heap.size,0,none⟩,m,zs,by rw [P.out.2.2];rfl,P.out.1,P.out.2.1,by rw [P.out.2.2];exact Nat.le_refl _,by unfold maxLen;omega,hI.out.bel,fun x hx => ?_,fun y hy x hx => ?_⟩
   ·cases hx
    exact HB2.out.size
   ·exact Nat.le_trans HB4.out.size ((hI.out.bods y hy).2 x hx)
end Go.Proofs.YthaoohbdjlbaeaaDoor.Tre
end
section
namespace Go.Proofs.YthaoohbdjlbaeaaDoor.Tre
open Go.ChangeShapes Go.WideShapes Go.ChangeAt Go.RowKit Base Byt Txt Bk Mk Mem Go.Lib
set_option linter.unusedVariables false
set_option maxRecDepth 100000
def FoldPost (w:World) (ms:List MemV) (e:Ending) (w':World):Prop:=
 ∃ q d zs,e=.returned (.tuple #[.slice q (foldD ms).1.length d,.agg #[.int .i64 (foldD ms).2.1,.int .i64 ((foldD ms).2.2:Int)]])∧zs.map NP.m=(foldD ms).1∧NodesAt w' q (foldD ms).1.length zs∧(foldD ms).1.length≤d∧d≤maxLen∧Below w.heap.size w w'∧(∀ x,q=some x → w.heap.size≤x.block)∧(∀ y ∈ zs,∀ x,y.p=some x → w.heap.size≤x.block)
theorem fold_none {w w':World} {ms:List MemV} {e i:Int} {k:Nat} (h:foldD ms=([],e,k)) (hb:Below w.heap.size w w') (hi:i=(k:Int)):FoldPost w ms (.returned (.tuple #[.slice none 0 0,.agg #[.int .i64 e,.int .i64 i]])) w':=
 ⟨none,0,[],by rw [h,hi];rfl,by rw [h];rfl,by rw [h];exact nodes_nil _ _,by rw [h];exact Nat.le_refl _,by decide,hb,(fun x hx => by cases hx),(fun y hy => by cases hy)⟩
set_option maxHeartbeats 4000000 in
theorem tfold_any (p:Option Addr) (n c:Nat) (xs:List MP) (w:World) (hM:MemsAt w p n xs) (hn:n≤1000000) (hF:FitMs xs) (hR:∀ x ∈ xs,x.m.body.length≤140737488351232) (hT:Path.Tabs w) :
 Calls Tryd.prog 10 #[.slice p n c] w (FoldPost w (xs.map MP.m)):=by
 obtain ⟨W,hW⟩:∃ W,w.alloc (.cells #[.int .i64 0,.int .i64 0] 28)=W:=⟨_,rfl⟩;have hB0:Below w.heap.size w W:=by rw [← hW];exact (Below.refl _ _).alloc (Nat.le_refl _) _
 have hX0:Blk W w.heap.size 28 #[.int .i64 0,.int .i64 0]:=by rw [← hW];exact Blk.new w _ _
 have HIX:=Lib.hid (index_any p n c xs W (hM.below hB0) (by omega) hF (hT.below hB0))
 have HM:=Lib.hid hM;have HL:=Lib.hid hM.1;have HF:=Lib.hid hF;have HR:=Lib.hid hR;have HB0:=Lib.hid hB0;have HX0:=Lib.hid hX0;obtain ⟨bo,hbo⟩:∃ bo,badAt (xs.map MP.m)=bo:=⟨_,rfl⟩;rw [hbo] at HIX;have HBO:=Lib.hid hbo;clear hM hF hR hT hB0 hX0 hbo
 go_enter Tryd.func10,Tryd.ntmps10
 go_upto_region 1 with fail
 clear hW
 go_wp2_with fail
 refine HIX.out.mono ?_
 rintro e w1 ⟨rfl,hb1⟩;have HB1:=Lib.hid (HB0.out.trans (hb1.mono HB0.out.size));have hX1:=HX0.out.below hb1 HX0.out.lt;have HX1:=Lib.hid hX1;have x0:=hX1.cell 0;have x1:=hX1.cell 1;have f0:=hX1.frozen 0;have f1:=hX1.frozen 1;simp only [List.getElem?_toArray,List.getElem?_cons_zero,List.getElem?_cons_succ] at x0 x1;clear hb1 hX1 HIX
 cases bo with
 | some i =>
   have hge:(0:Int)≤(i:Int):=by omega
   simp only [idxV]
   go_wp2
   refine bodyPost_ret (ret_fold rfl _ _ w.heap.size _ rfl rfl 1 (i:Int) (blk_flt HX1.out _ _)) rfl ?_
   exact fold_none (foldD_bad HBO.out) ((HB1.out.setCell (p:=⟨w.heap.size,0,none⟩) (Nat.le_refl _) _).setCell (p:=⟨w.heap.size,1,none⟩) (Nat.le_refl _) _) rfl
 | none =>
   simp only [idxV];clear x0 x1 f0 f1;have HNL:=Lib.hid (newLay_any p n c w1)
   go_wp2_with fail
   refine HNL.out.mono ?_
   rintro e w2 ⟨g,B,rfl,hL,hg,hB,hb2⟩;have HB2:=Lib.hid (HB1.out.trans (hb2.mono HB1.out.size));have HX2:=Lib.hid (HX1.out.below hb2 HX1.out.lt);have HGB:=Lib.hid (And.intro hg hB);have HL2:=Lib.hid hL;have HLT1:Hid (w.heap.size < w1.heap.size):=Lib.hid HX1.out.lt;clear hL hg hB hb2 HNL
   go_wp2_with fail
   go_loopw [6,17] (fun _ i wr => ∃ (k:Nat) (S:St),k≤n∧i=.int .i64 (k:Int)∧Hid (laysD (xs.map MP.m) k=.ok S)∧Hid (LayAt wr g B p n c (look S))∧Hid (Below w.heap.size w wr)∧Hid (Blk wr w.heap.size 28 #[.int .i64 0,.int .i64 0])) (fun _ i _ => n - (RowKit.intOf i).toNat)
   case atStart => exact ⟨0,[],Nat.zero_le _,rfl,Lib.hid rfl,Lib.hid HL2.out,HB2,HX2⟩
   case round =>
    obtain ⟨k,S,hk,rfl,hS,hLa,hBw,hXw⟩:=hrel
    by_cases hlt:k < n
    ·have hkl:k < (xs.map MP.m).length:=by rw [List.length_map,HL.out];exact hlt
     have hIn:=laysD_in (xs.map MP.m) k S (by omega) hS.out
     rw [List.length_map,HL.out] at hIn;have HLY:=Lib.hid (lay_any w g B p n c xs S k wr HM.out hBw.out (by have:=HGB.out.2;have:=HLT1.out;omega) (by omega) hlt hIn hLa.out)
     have hltz:(k:Int) < (n:Int):=by omega
     have HKN:Hid ((xs.map MP.m).length=k+1+(n - (k+1))):=Lib.hid (by rw [List.length_map,HL.out];omega)
     unfold LayPost at HLY;obtain ⟨lo,hlo⟩:∃ lo,layD (xs.map MP.m) S k=lo:=⟨_,rfl⟩;rw [hlo] at HLY;have HLO:=Lib.hid hlo;clear hkl hIn hlo
     go_wp2_with fail
     refine HLY.out.mono ?_
     rintro e w3 ⟨rfl,hL3,hk3⟩;have hne:w.heap.size≠B:=by have:=HGB.out.2;have:=HLT1.out;omega
     have hB3:Below w.heap.size w w3:=hBw.out.trans (hk3.below hBw.out.size (fun b hb => by rw [show b=B from hb];have:=HGB.out.2;have:=HLT1.out;omega))
     have hX3:=hXw.out.keptS hk3 (show ¬ oneB B w.heap.size from hne)
     have HB3:=Lib.hid hB3;have HX3:=Lib.hid hX3;have HL3:=Lib.hid hL3;have x0:=hX3.cell 0;have x1:=hX3.cell 1;have f0:=hX3.frozen 0;have f1:=hX3.frozen 1;simp only [List.getElem?_toArray,List.getElem?_cons_zero,List.getElem?_cons_succ] at x0 x1;clear hL3 hk3 hne hB3 hX3 HLY
     cases lo with
     | none =>
       have E:=Lib.hid (foldD_link HBO.out (by rw [HKN.out];exact laysD_stay (laysD_fall hS.out HLO.out) _))
       go_wp2
       refine bodyPost_ret (ret_fold rfl _ _ w.heap.size _ rfl rfl 7 (k:Int) (blk_flt HX3.out _ _)) rfl ?_
       exact fold_none E.out ((HB3.out.setCell (p:=⟨w.heap.size,0,none⟩) (Nat.le_refl _) _).setCell (p:=⟨w.heap.size,1,none⟩) (Nat.le_refl _) _) rfl
     | some S' =>
       have HS':=Lib.hid (laysD_step hS.out HLO.out);clear x0 x1 f0 f1
       go_wp2
       go_roundw
       case rel => exact ⟨k+1,S',by omega,by go_num,HS',HL3,HB3,HX3⟩
       case measure => simp [RowKit.intOf];omega
    ·have hks:¬ ((k:Int) < (n:Int)):=by omega
     have hkn:k=n:=by omega
     have hln:(xs.map MP.m).length=n:=by rw [List.length_map,HL.out]
     have hS':laysD (xs.map MP.m) (xs.map MP.m).length=.ok S:=by rw [hln,← hkn];exact hS.out
     have hok:=laysD_ok _ _ _ hS.out;have E:=Lib.hid (foldD_ok HBO.out hS')
     have HTR:=Lib.hid (tree_any g B p n c xs S wr (HM.out.below hBw.out) (by omega) hLa.out (laysD_apart _ _ _ hS.out) (by have:=laysD_in _ _ S (Nat.le_refl _) hS';rwa [hln] at this) (Nat.le_trans hok.len (by omega)) (fun e he => by
      obtain ⟨j,hj,e2⟩:=hok.from_ e he;rw [e2,getM_map];have:=(HF.out _ (getP_mem xs j (by rw [HL.out];omega))).1
      unfold maxLen
      omega) HR.out)
     clear hkn hln hS' hok
     go_wp2_with fail
     refine HTR.out.mono ?_
     rintro e w3 ⟨q,d,zs,rfl,hz,hnod,hd,hd2,hb3,hq,hy⟩;have HB3:=Lib.hid (hBw.out.trans (hb3.mono hBw.out.size));have hX3:=hXw.out.below hb3 hXw.out.lt;have HX3:=Lib.hid hX3;have HSZ:=Lib.hid (And.intro hBw.out.size hXw.out.lt);have P:=Lib.hid (And.intro hz (And.intro hnod (And.intro hd (And.intro hd2 (And.intro hq hy)))));have x0:=hX3.cell 0;have x1:=hX3.cell 1;have f0:=hX3.frozen 0;have f1:=hX3.frozen 1;simp only [List.getElem?_toArray,List.getElem?_cons_zero,List.getElem?_cons_succ] at x0 x1;clear hz hnod hd hd2 hb3 hq hy hX3
     go_wp2
     refine bodyPost_ret (ret_fold rfl _ _ w.heap.size _ rfl rfl 0 0 (blk_flt HX3.out _ _)) rfl ?_
     have hbf:=(HB3.out.setCell (p:=⟨w.heap.size,0,none⟩) (Nat.le_refl _) (.int .i64 0)).setCell (p:=⟨w.heap.size,1,none⟩) (Nat.le_refl _) (.int .i64 0);have hkf:Kept (oneB w.heap.size) w3 ((w3.setCell ⟨w.heap.size,0,none⟩ (.int .i64 0)).setCell ⟨w.heap.size,1,none⟩ (.int .i64 0)):=((Kept.refl (oneB w.heap.size) w3).setCell (a:=⟨w.heap.size,0,none⟩) (.inr rfl) _).setCell (a:=⟨w.heap.size,1,none⟩) (.inr rfl) _;obtain ⟨hz,hnod,hd,hd2,hq,hy⟩:=P.out;obtain ⟨hs1,hs2⟩:=HSZ.out;refine ⟨q,d,zs,by rw [E.out];rfl,by rw [E.out];exact hz,?_,by rw [E.out];exact hd,hd2,hbf,fun x hx => Nat.le_trans hs1 (hq x hx),fun y hyy x hx => Nat.le_trans hs1 (hy y hyy x hx)⟩
     rw [E.out];refine ⟨hnod.1,fun y hyy => (hnod.2.1 y hyy).kept hkf (fun _ x hx h => by have h1:=hy y hyy x hx;have h2:x.block=w.heap.size:=h;omega),fun h0 => ?_⟩
     obtain ⟨b,o,hb,hbl,hc⟩:=hnod.2.2 h0;refine ⟨b,o,hb,Nat.lt_of_lt_of_le hbl hkf.size,fun i hi j hj => ?_⟩
     rw [World.cell?_of_block (hkf.block b hbl (fun h => by have h1:=hq _ hb;have h2:b=w.heap.size:=h;simp only at h1;omega))]
     exact hc i hi j hj
end Go.Proofs.YthaoohbdjlbaeaaDoor.Tre
end
