/- Texts of this seat, merged: what the proof reaches. -/
import Derived.Test.YtfhelebejclalaaDoorLinksBackX14
import Derived.Test.YtfhelebejclalaaDoorLinksBackX17
import Derived.Test.YtfhelebejclalaaDoorLinksBackX24
import Derived.Test.YtfhelebejclalaaDoorLinksBackX25
import Derived.Test.YtfhelebejclalaaDoorLinksBackX26
import Derived.Shelf.SlIter.Sorted
import Derived.Test.YtfhelebejclalaaDoorLinksBackX22
import Derived.Test.YtfhelebejclalaaDoorLinksBackX16
import Derived.Test.YtfhelebejclalaaDoorLinksBackX23
import Derived.Maps.Own
import Derived.Deep.RegionHeldLaw
import Derived.Test.YtfhelebejclalaaDoorLinksBackX20
namespace Go.Proofs.YtfhelebejclalaaDoor
namespace Base
end Base
namespace Bk
end Bk
namespace Block
end Block
namespace Byt
end Byt
namespace Lnk
end Lnk
namespace Mem
end Mem
namespace Mk
end Mk
namespace Rec
end Rec
namespace Tre
end Tre
namespace Txt
end Txt
end Go.Proofs.YtfhelebejclalaaDoor
section
namespace Go.Proofs.YtfhelebejclalaaDoor.Tre
open Go.ChangeShapes Go.WideShapes Go.ChangeAt Go.RowKit Go.Shelf Base Byt Txt Bk Mk Go.Lib
set_option linter.unusedVariables false
set_option maxRecDepth 100000
theorem lt_of (x y:List UInt8):ltOf cmpD x y=ltB x y:=by
 unfold ltOf;rw [Bool.eq_iff_iff,decide_eq_true_eq,cmpD_lt]
theorem swoB:Go.Sort.SWO (ltOf cmpD) where
 irrefl x:=by rw [lt_of];exact ltB_irrefl x
 trans x y z h1 h2:=by rw [lt_of] at *;exact ltB_trans x y z h1 h2
 ntrans x y z h1 h2:=by
  rw [lt_of] at *
  cases h:ltB x z with
  | false => rfl
  | true => rw [ltB_trans_le h h2] at h1;cases h1
def KeysPost (w:World) (ks:List (List UInt8)) (e:Ending) (w':World):Prop:=
 ∃ (v:Value) (ts:List (List UInt8)),e=.returned v∧ts.Perm ks∧ts.Pairwise (fun a b => ltB a b=true)∧w'.ownsRow w.heap.size 9 1 v ts.length (ts.map fun x => .string (str x))∧Below w.heap.size w w'
theorem keys_any (B:Nat) (w:World):Calls Tryd.prog 42 #[.map (some B)] w fun e w' => e=.returned (.func (.func 52) #[] #[.pointer (some ⟨w.heap.size,0,none⟩)])∧w'=w.alloc (.cells #[.map (some B)] 57):=
 callsIn_wide.1 (AnyZ.keys_in Tryd.laysKeys Fence.wide 4 trivial rfl (some B) w)
theorem strict_of {ts ks:List (List UInt8)} (hp:ts.Perm ks) (hn:ks.Nodup) (hs:ts.Pairwise fun a b => ltB b a=false):ts.Pairwise fun a b => ltB a b=true:=by
 have h2:ts.Nodup:=hp.nodup_iff.2 hn;have:=hs.and h2;refine this.imp fun ⟨h1,h2⟩ => ?_
 exact ltB_of_not h1 (fun e => h2 e.symm)
theorem coll_any (Bm B:Nat) (w:World) {f:List UInt8 → Option Value} (hb:w.cell? ⟨Bm,0,none⟩=some (.map (some B))) (hM:MapK strK w B f) (hlen:∀ x v,f x=some v → x.length≤maxLen) (ks:List (List UInt8)) (hnd:ks.Nodup) (hks:∀ x,x ∈ ks ↔ (f x).isSome=true) (hsz:ks.length≤1000000000) :
 Calls Tryd.prog 50 #[.func (.func 52) #[] #[.pointer (some ⟨Bm,0,none⟩)]] w fun e w' => ∃ (v:Value) (ss:List (List UInt8)),e=.returned v∧ss.Perm ks∧w'.ownsRow w.heap.size 9 1 v ss.length (ss.map encStr)∧(v=.slice none 0 0 ↔ ss=[])∧Below w.heap.size w w':=by
 obtain ⟨D,hD,hperm,hsize⟩:=mapK_owns (P:=Tryd.prog) Tryd.underlying9 hM hlen ks hnd hks (by unfold maxLen;omega)
 have hg:=AnyZ.keys_gives { Tryd.laysKeys with } Fence.wide 4 trivial rfl (by omega) Bm B ks.length D w (World.block_lt_of_cell? _ _ hb) hb hD
 have h:=AnyZ.collect_in Tryd.laysColl Fence.wide 6 trivial trivial rfl (by omega) 52 #[.pointer (some ⟨Bm,0,none⟩)] trivial (enters_of Tryd.func52 (by kernel_rfl) rfl) (fun ss => ss.Perm (strKeys D)) (Maps.size D) (by rw [hsize];unfold maxLen;omega) (by rw [hsize];omega) w hg
 exact (callsIn_wide.1 h).mono fun e w' ⟨v,ss,h1,h2,h3,h4,h5⟩ => ⟨v,ss,h1,h2.trans hperm,h3,h4,h5⟩
set_option maxHeartbeats 2000000 in
theorem sorted_any (Bm B:Nat) (w:World) {f:List UInt8 → Option Value} (hb:w.cell? ⟨Bm,0,none⟩=some (.map (some B))) (hM:MapK strK w B f) (hlen:∀ x v,f x=some v → x.length≤maxLen) (ks:List (List UInt8)) (hnd:ks.Nodup) (hks:∀ x,x ∈ ks ↔ (f x).isSome=true) (hsz:ks.length≤1000000000) :
 Calls Tryd.prog 41 #[.func (.func 52) #[] #[.pointer (some ⟨Bm,0,none⟩)],.func (.func 43) #[] #[]] w (KeysPost w ks):=by
 have HC:=Lib.hid (coll_any Bm B w hb hM hlen ks hnd hks hsz);have HND:=Lib.hid hnd;have HSZ:=Lib.hid hsz;clear hb hM hlen hnd hks hsz
 go_enter Tryd.func41,Tryd.ntmps41
 go_wp2_with fail
 refine HC.out.mono ?_
 rintro e W ⟨v,ss,rfl,hperm,hrow,hnil,hbl⟩;rcases hrow.2 with ⟨rfl,hz⟩ | ⟨gb,cap,cur,rfl,hbase,hgb,r1,r2,r3,r4⟩
 ·have hss:ss=[]:=List.eq_nil_of_length_eq_zero hz
  subst hss;have P:=Lib.hid (And.intro hperm (And.intro hrow hbl));have HS:=Lib.hid (AnyF.slices_SortFunc_none Tryd.laysSortZ none 0 (.func (.func 43) #[] #[]) W);change Hid (Calls Tryd.prog 51 _ _ _) at HS;clear hperm hrow hbl hnil
  go_wp2_with fail
  refine HS.out.mono ?_
  rintro e w2 ⟨rfl,rfl⟩
  go_wp2
  go_ret
  exact ⟨.slice none 0 0,[],rfl,P.out.1,List.Pairwise.nil,by simpa using P.out.2.1,P.out.2.2⟩
 ·have hH:Go.Sort.Holds encStr W gb 0 ss.toArray:=holds_of_block hgb (by simpa using r4)
  have hgl:gb < W.heap.size:=(Array.getElem?_eq_some_iff.1 hgb).1;have hl:ss.length≤1000000000:=by rw [hperm.length_eq];exact HSZ.out
  have cS:=Any.slices_SortFunc Tryd.laysSortF encStr (fun _ => rfl) cmpD swoB 43 #[] gb 0 cap ss.toArray W (enters_of Tryd.func43 (by kernel_rfl) rfl)
   (fun m os dk _ x y => (compare_any x y _).mono fun e w' ⟨h1,h2⟩ => ⟨h1,0,#[],by rw [← h2,Go.Sort.grow_empty];rfl⟩) hH hgl (by simp;omega)
  change Calls Tryd.prog 51 _ _ _ at cS;rw [List.size_toArray] at cS;have HS:=Lib.hid cS;have P:=Lib.hid (And.intro hperm (And.intro hbl (And.intro hbase (And.intro hgb (And.intro r1 (And.intro r2 r3))))));clear cS hperm hbl hnil hrow hH hgl hl r4
  go_wp2_with fail
  refine HS.out.mono ?_
  rintro e w2 ⟨rfl,d',nn,os,hp,hs,rfl⟩;have HD:=Lib.hid (And.intro hp hs);clear hp hs
  go_wp2
  go_ret
  obtain ⟨hperm,hbl,hbase,hgb,r1,r2,r3⟩:=P.out;obtain ⟨⟨hp1,_,hp3⟩,hs⟩:=HD.out;have hsz':d'.toList.length=ss.length:=by simpa using hp1
  have hp4:d'.toList.Perm ss:=by
   have:(d'.extract 0 ss.length).toList.Perm (ss.toArray.extract 0 ss.length).toList:=hp3;have e:ss.length=d'.size:=by simpa using hp1.symm
   simpa [e,List.take_of_length_le (Nat.le_of_eq e)] using this
  refine ⟨_,d'.toList,rfl,hp4.trans hperm,strict_of (hp4.trans hperm) HND.out ?_,?_,hbl.grown (grownBy_sorted _) hbl.size (fun j hj => by cases hj;exact hbase)⟩
  ·refine List.pairwise_iff_getElem.2 fun i j hi hj hij => ?_
   have:=hs i j (Nat.zero_le _) hij (by rw [hsz'] at hj;exact hj)
   rw [lt_of] at this;simp only [Array.length_toList] at hi hj
   simpa [getElem!_pos,hi,hj] using this
  ·rw [hsz']
   have:=ownsRow_sorted (w:=W) (base:=w.heap.size) (n:=nn) (e:=9) (os:=os) (ss:=ss) (ts:=d'.toList) hsz' hbase hgb r1 r2 r3;simp only [Array.toArray_toList] at this;exact this
end Go.Proofs.YtfhelebejclalaaDoor.Tre
end
section
namespace Go.Proofs.YtfhelebejclalaaDoor.Tre
open Go.ChangeShapes Go.WideShapes Go.ChangeAt Go.RowKit Base Byt Txt Bk Mk Mem Go.Lib
set_option linter.unusedVariables false
set_option maxRecDepth 100000
def natK:Keying Nat where
 enc n:=.int .i64 (n:Int)
 kind:=.int .i64
 isKey _:=rfl
 inj a b h:=by injection h with _ h;omega
 same a:=by simp [Instr.sameBits]
def SAt (w:World) (p:Option Addr) (n:Nat) (ts:List (List UInt8)):Prop:=
 0 < n → ∃ b o,p=some ⟨b,o,none⟩∧b < w.heap.size ∧ ∀ i,i < n → w.cell? ⟨b,o+i,none⟩=some (.string (str (ts.getD i [])))
theorem SAt.keptS {w w':World} {S:Nat → Prop} {p:Option Addr} {n:Nat} {ts:List (List UInt8)} (h:SAt w p n ts) (hk:Kept S w w') (hn:∀ k,k < w.heap.size → ¬ S k):SAt w' p n ts:=fun h0 => by
 obtain ⟨b,o,rfl,hb,hc⟩:=h h0;exact ⟨b,o,rfl,Nat.lt_of_lt_of_le hb hk.size,fun i hi => by rw [World.cell?_of_block (hk.block b hb (hn b hb))];exact hc i hi⟩
theorem sat_of_own {w:World} {base:Nat} {e:TypeId} {v:Value} {ts:List (List UInt8)} (h:w.ownsRow base e 1 v ts.length (ts.map fun x => .string (str x))) :
 ∃ p c,v=.slice p ts.length c∧SAt w p ts.length ts:=by
 have h':=h;have hlt:=h.lt;rcases h.2 with ⟨rfl,h0⟩ | ⟨g,cap,cur,rfl,hg,_,h1,h2,_⟩
 ·exact ⟨none,0,by rw [h0],fun hp => by omega⟩
 ·refine ⟨some ⟨g,0,none⟩,cap,rfl,fun h0 => ⟨g,0,rfl,(hlt g rfl).2,fun i hi => ?_⟩⟩
  rw [Nat.zero_add,h'.cellAt i (by omega),List.getElem?_map,List.getElem?_eq_getElem (by omega)]
  simp [List.getD,hi]
def numsN (f:Nat → Option Nat):Nat → Option Value:=fun x => (f x).map fun n => .int .i64 (n:Int)
def TreePost (w:World) (t:List NodeV) (e:Ending) (w':World):Prop:=
 ∃ q d zs,e=.returned (.slice q t.length d)∧zs.map NP.m=t∧NodesAt w' q t.length zs∧t.length≤d∧d≤maxLen∧Below w.heap.size w w'∧(∀ x,q=some x → w.heap.size≤x.block)∧(∀ y ∈ zs,∀ x,y.p=some x → w.heap.size≤x.block)
structure TI (w w4 wr:World) (gt bl g B:Nat) (p:Option Addr) (n c:Nat) (ms:List MemV) (S T:St) (k:Nat) (zs:List NP):Prop where
 bel:Below w.heap.size w wr
 kp:Kept (twoB gt (some bl)) w4 wr
 lay:LayAt wr g B p n c (look S)
 row:Rw wr gt zs
 len:zs.length=T.length
 map:MapK natK wr bl (numsN (leads ms T k))
 done:∀ j,j < k → (zs.getD j zeroQ).m=nodeD ms T (T.getD j ([],0))
 rest:∀ j,k≤j → zs.getD j zeroQ=zeroQ
 bods:∀ x ∈ zs,BodAt wr x ∧ ∀ a,x.p=some a → w4.heap.size≤a.block
theorem TI.step {w w4 wr W':World} {gt bl g B:Nat} {p:Option Addr} {n c:Nat} {ms:List MemV} {S T:St} {k:Nat} {zs:List NP} (hI:TI w w4 wr gt bl g B p n c ms S T k zs) (hk:k < T.length) (hkp:Kept (twoB gt (some bl)) wr W') (hb:Below w.heap.size w W')
 (hw:w.heap.size≤gt∧w.heap.size≤bl∧gt < w4.heap.size∧bl < w4.heap.size) (hlt:g < w.heap.size∧B < w.heap.size) {y:NP} (hrow:Rw W' gt (zs.set k y)) (hmap:MapK natK W' bl (numsN (leads ms T (k+1)))) (hy:y.m=nodeD ms T (T.getD k ([],0))) (hby:BodAt W' y) (hya:∀ a,y.p=some a → w4.heap.size≤a.block) :
 TI w w4 W' gt bl g B p n c ms S T (k+1) (zs.set k y):=by
 have hkz:k < zs.length:=by rw [hI.len];exact hk
 have off:∀ b,b < w.heap.size → ¬ twoB gt (some bl) b:=fun b hb h => by
  rcases h with h | h
  ·omega
  ·cases h;omega
 refine ⟨hb,hI.kp.trans hkp,⟨hI.lay.obj.keptS hkp (off g hlt.1),hI.lay.map.kept hkp (off B hlt.2)⟩,hrow,by rw [List.length_set];exact hI.len,hmap,fun j hj => ?_,fun j hj => ?_,fun x hx => ?_⟩
 ·rw [getSet zs k j y hkz]
  by_cases h:j=k
  ·rw [if_pos h,h];exact hy
  ·rw [if_neg h];exact hI.done j (by omega)
 ·rw [getSet zs k j y hkz,if_neg (by omega)]
  exact hI.rest j (by omega)
 ·rcases List.mem_or_eq_of_mem_set hx with hx | rfl
  ·obtain ⟨h1,h2⟩:=hI.bods x hx
   refine ⟨h1.kept hkp (fun _ a ha h => ?_),h2⟩
   have:=h2 a ha;rcases h with h | h
   ·omega
   ·injection h with h;omega
  ·exact ⟨hby,hya⟩
theorem mcells {W:World} {b:Nat} {y:MP} (h:Blk W b 50 y.cs) :
 W.cell? ⟨b,1,none⟩=some (.string (str y.m.target))∧W.cell? ⟨b,2,none⟩=some (.int .u8 (y.m.kind.toNat:Int))∧W.cell? ⟨b,3,none⟩=some (.int .i64 y.m.mode)∧W.cell? ⟨b,4,none⟩=some (.int .i64 y.m.uid)∧W.cell? ⟨b,5,none⟩=some (.int .i64 y.m.gid)∧W.cell? ⟨b,6,none⟩=some (.int .i64 y.m.time)∧W.cell? ⟨b,7,none⟩=some (.slice y.p y.m.body.length y.c):=
 ⟨h.cell 1,h.cell 2,h.cell 3,h.cell 4,h.cell 5,h.cell 6,h.cell 7⟩
theorem numsK_some (S:St) (x:List UInt8):(numsK (look S) x).isSome=(look S x).isSome:=by
 unfold numsK
 cases look S x<;>rfl
set_option maxHeartbeats 16000000 in
theorem tree_any (g B:Nat) (p:Option Addr) (n c:Nat) (xs:List MP) (S:St) (w:World) (hM:MemsAt w p n xs) (hn:n≤1000000000) (hL:LayAt w g B p n c (look S)) (hA:Apart S) (hS:InS S n) (hsz:S.length≤1000000) (hlen:∀ e ∈ S,e.1.length≤maxLen) (hR:∀ x ∈ xs,x.m.body.length≤140737488351232) :
 Calls Tryd.prog 34 #[.pointer (some ⟨g,0,none⟩)] w (TreePost w (treeD (xs.map MP.m) S)):=by
 obtain ⟨i0,hi,hz0,hz1,hz2⟩:=info_parts infoNod;have HI:=Lib.hid hi;have HZ0:=Lib.hid hz0;have HZ1:=Lib.hid hz1;have HZ2:=Lib.hid hz2;have hmm:=@run_makeMap Tryd.prog;have HM:=Lib.hid hM;have HLN:=Lib.hid hM.1;have HL:=Lib.hid hL;have HA:=Lib.hid hA;have HS:=Lib.hid hS;have HLEN:=Lib.hid hlen;have HRB:=Lib.hid hR;have g1:=hL.obj.cell 1;simp only [List.getElem?_toArray,List.getElem?_cons_zero,List.getElem?_cons_succ] at g1;have HK1:=Lib.hid (keys_any B w);have hW1:Below w.heap.size w (w.alloc (.cells #[.map (some B)] 57)):=(Below.refl _ _).alloc (Nat.le_refl _) _
 have hL1:=hL.below hW1
 have HK2:=Lib.hid (sorted_any w.heap.size B (w.alloc (.cells #[.map (some B)] 57)) ((Blk.new w 57 #[.map (some B)]).cell 0) hL1.map (fun x v hv => by
  have:x ∈ S.map (·.1):=(look_isSome x).1 (by rw [← numsK_some,hv];rfl)
  obtain ⟨e,he,rfl⟩:=List.mem_map.1 this
  exact hlen e he) (S.map fun e:List UInt8 × Nat => e.1) hA (fun x => by rw [numsK_some,look_isSome]) (by rw [List.length_map];omega))
 have HW1:=Lib.hid hW1;have HSZ:=Lib.hid hsz;clear hi hz0 hz1 hz2 hM hL hA hS hlen hR hL1 hW1 hsz
 go_enter Tryd.func34,Tryd.ntmps34
 go_wp2_with fail
 refine HK1.out.mono ?_
 rintro e w1 ⟨rfl,rfl⟩
 go_wp2_with fail
 refine HK2.out.mono ?_
 rintro e w2 ⟨v,ts,rfl,hperm,hrise,hrow,hb2⟩;obtain ⟨p3,c3,rfl,hsat⟩:=sat_of_own hrow;have HB2:=Lib.hid (HW1.out.trans (hb2.mono HW1.out.size));have HSAT:=Lib.hid hsat;have HPR:=Lib.hid (And.intro hperm hrise);have hml:ts.length=S.length:=by rw [hperm.length_eq,List.length_map]
 have HML:=Lib.hid hml;obtain ⟨m,hm⟩:∃ m,ts.length=m:=⟨_,rfl⟩;rw [hm] at HSAT HML ⊢;have HTM:=Lib.hid hm;have hm1:m≤1000000:=by rw [← hm,hml];exact HSZ.out
 clear hperm hrise hrow hb2 hsat hml hm g1 HK1 HK2
 go_wp2_with (at_make;refine wpList_make_full _ rfl _ _ 22 rfl w2.heap.size 45 i0 _ 9 Tryd.underlying22 HI.out HZ0.out HZ1.out .i64 .i64 _ _ m rfl rfl rfl rfl ?mk1 ?mk2 (Nat.le_refl _) ?_)
 case mk1 => rw [HZ2.out];omega
 case mk2 => unfold maxLen;omega
 intro w3 hmade hgrow
 have hrw:=rw_made (B:=w2.heap.size) (w':=w3) (g:=w2.heap.size) (n:=m) (by
  have h9:=hmade;rw [made_nodes] at h9
  exact h9)
 have hk3:Kept noneB w2 w3:=(Kept.refl noneB w2).grown hgrow (fun k h => by cases h)
 have hb3:Below w2.heap.size w2 w3:=hk3.below (Nat.le_refl _) (fun _ h => h.elim)
 have HRW:=Lib.hid hrw;have HB3:=Lib.hid hb3;have HSZ3:Hid (w2.heap.size < w3.heap.size):=Lib.hid (Blk.lt hrw);clear hmade hgrow hrw hk3 hb3;obtain ⟨w4,hw4⟩:∃ w4,w3.alloc (.map #[] 0)=w4:=⟨_,rfl⟩;have hb4:Below w3.heap.size w3 w4:=by rw [← hw4];exact (Below.refl _ _).alloc (Nat.le_refl _) _
 have hmp:MapK natK w4 w3.heap.size (fun _ => none):=by rw [← hw4];exact mapK_made natK w3
 have hsz4:w4.heap.size=w3.heap.size+1:=by rw [← hw4];simp
 obtain ⟨T,hT⟩:∃ T,sortS S=T:=⟨_,rfl⟩;have HT:Hid (T=ts.map fun x => (x,(look S x).getD 0)):=Lib.hid (by rw [← hT];exact keys_sort HA.out HPR.out.1 HPR.out.2)
 have HTD:Hid (treeD (xs.map MP.m) S=T.map (nodeD (xs.map MP.m) T)):=Lib.hid (by rw [treeD,hT])
 have HTL:Hid (T.length=m):=Lib.hid (by rw [HT.out,List.length_map,HTM.out])
 have HB4:=Lib.hid (HB2.out.trans ((HB3.out.trans (hb4.mono HB3.out.size)).mono HB2.out.size));have HSAT4:Hid (SAt w4 p3 m ts):=Lib.hid (HSAT.out.keptS (Kept.of_below (HB3.out.trans (hb4.mono HB3.out.size)) noneB) (fun _ _ h => h.elim))
 have HP3:Hid (0 < m → ∀ a,p3=some a → a.block < w2.heap.size):=Lib.hid (fun h0 a ha => by
  obtain ⟨b,o,he,hb,_⟩:=HSAT.out h0;rw [ha] at he
  cases he
  exact hb)
 have HTI:Hid (TI w w4 w4 w2.heap.size w3.heap.size g B p n c (xs.map MP.m) S T 0 (List.replicate m zeroQ)):=Lib.hid
  { bel:=HB4.out,kp:=Kept.refl _ _,lay:=HL.out.below HB4.out,row:=Blk.below HRW.out hb4 HSZ3.out,len:=by rw [List.length_replicate,HTL.out]
    map:=by
     have e:numsN (leads (xs.map MP.m) T 0)=fun _ => none:=by funext n;unfold numsN;rw [leads_zero];rfl
     rw [e];exact hmp
    done:=fun j hj => by omega
    rest:=fun j _ => by
     rw [List.getD,List.getElem?_replicate]
     split<;>rfl
    bods:=fun x hx => by
     rw [(List.mem_replicate.1 hx).2]
     exact ⟨zero_bod _,fun a h => by cases h⟩ }
 have HSZ4:=Lib.hid hsz4;clear hb4 hmp hT HRW HB3 HSAT hsz4
 go_upto_region 4 with fail
 clear hw4 hmm
 go_wp2_with fail
 go_loopw [6,7,8,9,10,11,24,59] (fun _ _ _ _ _ _ i _ wr => ∃ (k:Nat) (zs:List NP),k≤m∧i=.int .i64 (k:Int)∧Hid (TI w w4 wr w2.heap.size w3.heap.size g B p n c (xs.map MP.m) S T k zs)) (fun _ _ _ _ _ _ i _ _ => m - (RowKit.intOf i).toNat)
 case atStart => exact ⟨0,List.replicate m zeroQ,Nat.zero_le _,rfl,HTI⟩
 case round =>
  obtain ⟨k,zs,hk,rfl,hI⟩:=hrel
  by_cases hlt:k < m
  ·have hkT:k < T.length:=by rw [HTL.out];exact hlt
   have hkz:k < zs.length:=by rw [hI.out.len];exact hkT
   have hkt:k < ts.length:=by rw [HTM.out];exact hlt
   obtain ⟨x,hx⟩:∃ x,ts.getD k []=x:=⟨_,rfl⟩;have hxm:x ∈ ts:=by rw [← hx,List.getD,List.getElem?_eq_getElem hkt];exact List.getElem_mem hkt
   obtain ⟨nn,hnn⟩:=Option.isSome_iff_exists.1 ((look_isSome x).2 (HPR.out.1.mem_iff.1 hxm))
   have hTk:T.getD k ([],0)=(x,nn):=by
    rw [HT.out,List.getD,List.getElem?_map,List.getElem?_eq_getElem hkt];rw [List.getD,List.getElem?_eq_getElem hkt] at hx;simp only [Option.getD_some] at hx;simp only [Option.map_some,Option.getD_some,hx,hnn]
   have hnl:nn < n:=HS.out.look hnn
   have hwz:w.heap.size≤w2.heap.size∧w.heap.size≤w3.heap.size∧w2.heap.size < w4.heap.size∧w3.heap.size < w4.heap.size:=by
    have h1:=HB2.out.size;have h2:=HSZ3.out;have h3:=HSZ4.out;omega
   have hgB:g < w.heap.size∧B < w.heap.size:=⟨HL.out.obj.lt,HL.out.map.lt⟩;obtain ⟨b3,o3,hp3,hb3,hc3⟩:=HSAT4.out (by omega)
   have hb3g:=HP3.out (by omega) _ hp3
   subst hp3
   have hb3k:¬ twoB w2.heap.size (some w3.heap.size) b3:=fun h => by
    have h3:=HSZ3.out;rcases h with h | h
    ·simp only at hb3g;omega
    ·injection h with h;simp only at hb3g;omega
   have HKEY:Hid (∀ W',Kept (twoB w2.heap.size (some w3.heap.size)) w4 W' → ∀ i,i < m → W'.cell? ⟨b3,o3+i,none⟩=some (.string (str (ts.getD i [])))):=Lib.hid (fun W' hk i hi => by
    rw [World.cell?_of_block (hk.block b3 hb3 hb3k)];exact hc3 i hi)
   have z0:=HKEY.out wr hI.out.kp k hlt;rw [hx] at z0;have g0:=hI.out.lay.obj.cell 0;have g1:=hI.out.lay.obj.cell 1;simp only [List.getElem?_toArray,List.getElem?_cons_zero,List.getElem?_cons_succ] at g0 g1
   have lk:(Instr.lookup 57 (.map (some B)) (.string (str x)) false).run Tryd.prog wr=.ok (.int .i64 (nn:Int)) wr:=by
    have h:=hI.out.lay.map.look (P:=Tryd.prog) Tryd.underlying57 Tryd.underlying9 (z:=.int .i64 0) (fun w => Tryd.zeroValue3 w) x
    rw [show numsK (look S) x=some (.int .i64 (nn:Int)) by rw [numsK,hnn];rfl] at h
    exact h
   obtain ⟨b1,o1,hp1,hb1,hBd,hcm⟩:=(HM.out.below hI.out.bel).cells8 hnl;subst hp1;have hG0:=getM_map xs nn;have hRY:=HRB.out _ (getP_mem xs nn (by rw [HLN.out];exact hnl))
   obtain ⟨y,hy⟩:∃ y,xs.getD nn zeroP=y:=⟨_,rfl⟩;rw [hy] at hBd hcm hG0 hRY;obtain ⟨c0,c1,c2,c3,c4,c5,c6,c7⟩:=hcm;obtain ⟨W5,hW5⟩:∃ W5,wr.alloc (.cells y.cs 50)=W5:=⟨_,rfl⟩;have hB5:Below wr.heap.size wr W5:=by rw [← hW5];exact (Below.refl _ _).alloc (Nat.le_refl _) _
   have hBM:Blk W5 wr.heap.size 50 y.cs:=by rw [← hW5];exact Blk.new wr _ _
   have HB5:=Lib.hid hB5;have HBM:=Lib.hid hBM;have HCC:Hid (∀ w',Below W5.heap.size W5 w' → w'.cell? ⟨wr.heap.size,1,none⟩=some (.string (str y.m.target))∧w'.cell? ⟨wr.heap.size,2,none⟩=some (.int .u8 (y.m.kind.toNat:Int))∧w'.cell? ⟨wr.heap.size,3,none⟩=some (.int .i64 y.m.mode)∧w'.cell? ⟨wr.heap.size,4,none⟩=some (.int .i64 y.m.uid)∧w'.cell? ⟨wr.heap.size,5,none⟩=some (.int .i64 y.m.gid)∧w'.cell? ⟨wr.heap.size,6,none⟩=some (.int .i64 y.m.time)∧w'.cell? ⟨wr.heap.size,7,none⟩=some (.slice y.p y.m.body.length y.c)):=Lib.hid (fun w' h => mcells (hBM.below h hBM.lt))
   have HBB:Hid (Below W5.heap.size W5 W5.drew):=Lib.hid (below_drewN (Below.refl W5.heap.size W5) 1);have HCL:Hid (∀ w',Below W5.heap.size W5 w' → Calls Tryd.prog 26 #[.slice y.p y.m.body.length y.c] w' (ClonePost w' y.m.body.length y.m.body)):=Lib.hid (fun w' h => clone_any y.p y.m.body.length y.c y.m.body w' ((hBd.below hB5).below h).bat rfl hRY)
   unfold ClonePost at HCL;have HK0:=Lib.hid (And.intro hkT (And.intro hkz (And.intro hTk (And.intro hwz hgB))));have HG0:=Lib.hid hG0;have HGTR:Hid (w2.heap.size < wr.heap.size):=Lib.hid (Blk.lt hI.out.row);have hnz:(nn:Int) < (n:Int):=by omega
   have hn0:(0:Int)≤(nn:Int):=by omega
   have hkzz:(k:Int) < (m:Int):=by omega
   unfold MP.cs memC at hW5;have HX:=Lib.hid hx;clear hkT hkz hkt hxm hTk hnl hwz hgB hb3 hc3 hb3g hb3k hb1 hBd hG0 hRY hy hB5 hBM hnn hx
   go_upto_region 9 with fail
   clear hW5 c0 c1 c2 c3 c4 c5 c6 c7 g0 g1 lk z0
   go_wp2_with fail
   go_region_held_law (fun w' => w'.cell? ⟨wr.heap.size,1,none⟩=some (.string (str y.m.target))∧w'.cell? ⟨wr.heap.size,2,none⟩=some (.int .u8 (y.m.kind.toNat:Int))∧w'.cell? ⟨wr.heap.size,3,none⟩=some (.int .i64 y.m.mode)∧w'.cell? ⟨wr.heap.size,4,none⟩=some (.int .i64 y.m.uid)∧w'.cell? ⟨wr.heap.size,5,none⟩=some (.int .i64 y.m.gid)∧w'.cell? ⟨wr.heap.size,6,none⟩=some (.int .i64 y.m.time)∧w'.cell? ⟨wr.heap.size,7,none⟩=some (.slice y.p y.m.body.length y.c)) (first | with_reducible exact HCC.out _ HBB.out | exact mcells (rw_other HBA.out (Nat.ne_of_lt HGTR.out) _ _ _ _ _ _ _ _ _)) (first
    | (go_at_call 26
       refine (HCL.out _ ?_).mono ?_
       (with_reducible exact HBB.out)
       rintro e wa ⟨q,d,rfl,hle,hmx,hbt,hnew,hba⟩;have HBB:=Lib.hid (HBB.out.trans (hba.mono HBB.out.size));have HBA:=Lib.hid (HBM.out.below HBB.out HBM.out.lt);have hro:Rw wa w2.heap.size zs:=Blk.below (Blk.below hI.out.row HB5.out HGTR.out) HBB.out (Nat.lt_of_lt_of_le HGTR.out HB5.out.size);have HROW:=Lib.hid hro;have P:=Lib.hid (And.intro hle (And.intro hmx (And.intro hbt hnew)));obtain ⟨r0,r1,r2,r3,r4,r5,r6,r7,r8⟩:=hro.cells9 HK0.out.2.1;have f0:=Blk.frozen hro (k * 9);have f1:=Blk.frozen hro (k * 9+1);have f2:=Blk.frozen hro (k * 9+2);have f3:=Blk.frozen hro (k * 9+3)
       have f4:=Blk.frozen hro (k * 9+4);have f5:=Blk.frozen hro (k * 9+5);have f6:=Blk.frozen hro (k * 9+6);have f7:=Blk.frozen hro (k * 9+7);have f8:=Blk.frozen hro (k * 9+8)
       clear hle hmx hbt hnew hba hro))
   obtain ⟨W6,hW6⟩:∃ W6,(((((((((wa.setCell ⟨w2.heap.size,k * 9,none⟩ (.string (str x))).setCell ⟨w2.heap.size,k * 9+1,none⟩ (.string (str y.m.target))).setCell ⟨w2.heap.size,k * 9+2,none⟩ (.string ⟨#[]⟩)).setCell ⟨w2.heap.size,k * 9+3,none⟩ (.int .u8 (y.m.kind.toNat:Int))).setCell ⟨w2.heap.size,k * 9+4,none⟩ (.int .i64 y.m.mode)).setCell ⟨w2.heap.size,k * 9+5,none⟩ (.int .i64 y.m.uid)).setCell ⟨w2.heap.size,k * 9+6,none⟩ (.int .i64 y.m.gid)).setCell ⟨w2.heap.size,k * 9+7,none⟩ (.int .i64 y.m.time)).setCell ⟨w2.heap.size,k * 9+8,none⟩ (.slice q y.m.body.length d))=W6:=⟨_,rfl⟩
   have hk6:Kept (oneB w2.heap.size) wa W6:=by rw [← hW6];exact rw_kept (S:=oneB w2.heap.size) rfl _ _ _ _ _ _ _ _ _
   have hr6:Rw W6 w2.heap.size (zs.set k ⟨nodeM x y.m [],q,d⟩):=by rw [← hW6];exact HROW.out.set HK0.out.2.1 ⟨nodeM x y.m [],q,d⟩
   have hm6:Blk W6 wr.heap.size 50 y.cs:=by rw [← hW6];exact rw_other HBA.out (Nat.ne_of_lt HGTR.out) _ _ _ _ _ _ _ _ _
   rw [hW6];clear hW6 r0 r1 r2 r3 r4 r5 r6 r7 r8 f0 f1 f2 f3 f4 f5 f6 f7 f8;have hwa:Below wr.heap.size wr wa:=HB5.out.trans (HBB.out.mono HB5.out.size);have HKP6:Hid (Kept (twoB w2.heap.size (some w3.heap.size)) wr W6):=Lib.hid ((Kept.of_below hwa _).trans (hk6.mono (fun k h => .inl h)))
   have HQB:Hid (∀ a,q=some a → w4.heap.size≤a.block):=Lib.hid (fun a ha => by
    have h1:=P.out.2.2.2 a ha;have h2:=HB5.out.size;have h3:=hI.out.kp.size;have h4:W5.heap.size≤a.block:=h1
    omega)
   have HY6:Hid (BodAt W6 ⟨nodeM x y.m [],q,d⟩):=Lib.hid ⟨P.out.2.2.1.kept hk6 (fun _ a ha h => by
    have h1:=HQB.out a ha;have h2:a.block=w2.heap.size:=h;have h3:=HK0.out.2.2.2.1.2.2.1
    omega),P.out.1,P.out.2.1⟩
   have HM6:Hid (MapK natK W6 w3.heap.size (numsN (leads (xs.map MP.m) T k))):=Lib.hid ((hI.out.map.kept (Kept.of_below hwa noneB) (fun h => h.elim)).kept hk6 (fun e => by have h1:=HSZ3.out;have h2:w3.heap.size=w2.heap.size:=e;omega))
   have HR6:=Lib.hid hr6
   have HND:Hid (nodeD (xs.map MP.m) T (T.getD k ([],0))=nodeM x y.m (if y.m.kind=48 then leadD T nn else [])):=Lib.hid (by
    rw [HK0.out.2.2.1];unfold nodeD
    rw [HG0.out])
   have y2:=hm6.cell 2;have ek:=kind_ne1 y.m.kind 48 48 rfl;obtain ⟨kn,hkn⟩:∃ kn:Int,(y.m.kind.toNat:Int)=kn:=⟨_,rfl⟩;simp only [MP.cs,memC,List.getElem?_toArray,List.getElem?_cons_zero,List.getElem?_cons_succ] at y2;rw [hkn] at y2 ek;clear hwa hk6 hr6 hm6 hkn
   by_cases h48:y.m.kind=48
   ·rw [decide_eq_true h48] at ek
    have H48:=Lib.hid h48;have HKG:Hid (((xs.map MP.m).getD (T.getD k ([],0)).2 zeroMv).kind=48):=Lib.hid (by rw [HK0.out.2.2.1,HG0.out];exact h48)
    have HLK:=Lib.hid (HM6.out.look_ok (P:=Tryd.prog) Tryd.underlying84 Tryd.underlying3 (z:=.int .i64 0) (fun w => Tryd.zeroValue3 w) nn)
    have HT2:Hid ((T.getD k ([],0)).2=nn):=Lib.hid (by rw [HK0.out.2.2.1])
    obtain ⟨fo,hfo⟩:∃ fo,leads (xs.map MP.m) T k nn=fo:=⟨_,rfl⟩;have HFO:=Lib.hid hfo;unfold numsN at HLK;rw [hfo] at HLK;clear h48 hfo
    cases fo with
    | none =>
      have lk2:(Instr.lookup 84 (.map (some w3.heap.size)) (.int .i64 (nn:Int)) true).run Tryd.prog W6=.ok (.tuple #[.int .i64 0,.bool false]) W6:=HLK.out;clear HLK
      go_wp2_with (at_mapUpdate;refine wpList_putK (K:=natK) rfl (.tmp 68) (.tmp 69) (.tmp 70) rfl Tryd.underlying84 Tryd.underlying3 w3.heap.size HM6.out rfl nn rfl (.int .i64 (k:Int)) rfl ?_)
      intro w7 hm7 hk7 hs7;have hk7':Kept (twoB w2.heap.size (some w3.heap.size)) W6 w7:=hk7.out.mono (fun k h => .inr (by rw [show k=w3.heap.size from h]))
      have HKP7:=Lib.hid (HKP6.out.trans hk7');have hr7:Rw w7 w2.heap.size (zs.set k ⟨nodeM x y.m [],q,d⟩):=Blk.keptS HR6.out hk7.out (fun e => by have h1:=HSZ3.out;have h2:w2.heap.size=w3.heap.size:=e;omega)
      have z0:=HKEY.out w7 (hI.out.kp.trans HKP7.out) k hlt;rw [HX.out] at z0
      have hMP:MapK natK w7 w3.heap.size (numsN (leads (xs.map MP.m) T (k+1))):=by
       have e:=leads_new HK0.out.1 HKG.out (by rw [HT2.out];exact HFO.out)
       have e2:numsN (leads (xs.map MP.m) T (k+1))=fun y => if y=nn then some (.int .i64 (k:Int)) else numsN (leads (xs.map MP.m) T k) y:=by
        funext v
        unfold numsN;rw [e,HT2.out]
        by_cases h:v=nn<;>simp [h]
       rw [e2];exact hm7.out
      have hLD:leadD T nn=x:=by
       have h:=leads_lead HK0.out.1 HKG.out;rw [HT2.out,HFO.out,Option.getD_none,HK0.out.2.2.1] at h;exact h
      have HN:Hid (TI w w4 (w7.setCell ⟨w2.heap.size,k * 9+2,none⟩ (.string (str x))) w2.heap.size w3.heap.size g B (some ⟨b1,o1,none⟩) n c (xs.map MP.m) S T (k+1) (zs.set k ⟨nodeM x y.m x,q,d⟩)):=by
       have hkp:Kept (twoB w2.heap.size (some w3.heap.size)) wr (w7.setCell ⟨w2.heap.size,k * 9+2,none⟩ (.string (str x))):=HKP7.out.setCell (a:=⟨w2.heap.size,k * 9+2,none⟩) (.inr (.inl rfl)) _;have hset:Kept (oneB w2.heap.size) w7 (w7.setCell ⟨w2.heap.size,k * 9+2,none⟩ (.string (str x))):=(Kept.refl (oneB w2.heap.size) _).setCell (a:=⟨w2.heap.size,k * 9+2,none⟩) (.inr rfl) _;obtain ⟨hkT,hkz,hTk,hwz,hgB⟩:=HK0.out
       have hrow:Rw (w7.setCell ⟨w2.heap.size,k * 9+2,none⟩ (.string (str x))) w2.heap.size (zs.set k ⟨nodeM x y.m x,q,d⟩):=by
        have h:=Rw.lead (k:=k) hr7 (by rw [List.length_set];exact hkz) x
        rw [List.set_set,getSet zs k k _ hkz,if_pos rfl] at h;exact h
       refine Lib.hid (hI.out.step hkT hkp (hI.out.bel.trans (hkp.below hI.out.bel.size (fun b hb => by
        rcases hb with hb | hb
        ·rw [hb];exact hwz.1
        ·injection hb with hb;rw [hb];exact hwz.2.1))) hwz hgB hrow (hMP.kept hset (fun e => by have h1:=HSZ3.out;have h2:w3.heap.size=w2.heap.size:=e;omega)) ?_ ?_ ?_)
       ·rw [HND.out]
        show nodeM x y.m x=_;rw [if_pos H48.out,hLD]
       ·exact ⟨(HY6.out.bat.kept (hk7'.setCell (a:=⟨w2.heap.size,k * 9+2,none⟩) (.inr (.inl rfl)) _) (fun _ a ha h => by
         have h1:=HQB.out a ha;rcases h with h | h
         ·omega
         ·injection h with h;omega)),HY6.out.le,HY6.out.mx⟩
       ·exact HQB.out
      have r2:=(hr7.cells9 (show k < (zs.set k ⟨nodeM x y.m [],q,d⟩).length by rw [List.length_set];exact HK0.out.2.1)).2.2.1
      have f2:=Blk.frozen hr7 (k * 9+2);have hkm:(k:Int) < (m:Int):=by omega
      clear hk7' hr7 hMP hLD hm7 hk7 hs7
      go_wp2
      go_roundw
      case rel => exact ⟨k+1,_,by omega,by go_num,HN⟩
      case measure => simp [RowKit.intOf];omega
    | some f =>
      have hfk:=leads_lt HFO.out;have hfm:f < m:=by omega
      have lk2:(Instr.lookup 84 (.map (some w3.heap.size)) (.int .i64 (nn:Int)) true).run Tryd.prog W6=.ok (.tuple #[.int .i64 (f:Int),.bool true]) W6:=HLK.out;obtain ⟨l,hl⟩:∃ l,ts.getD f []=l:=⟨_,rfl⟩;have z0:=HKEY.out W6 (hI.out.kp.trans HKP6.out) f hfm;rw [hl] at z0
      have hMP:MapK natK W6 w3.heap.size (numsN (leads (xs.map MP.m) T (k+1))):=by
       rw [leads_old HK0.out.1 (by rw [HT2.out];exact HFO.out)]
       exact HM6.out
      have hLD:leadD T nn=l:=by
       have h:=leads_lead HK0.out.1 HKG.out;rw [HT2.out,HFO.out,Option.getD_some] at h;rw [h,← hl,HT.out,List.getD,List.getD,List.getElem?_map,List.getElem?_eq_getElem (show f < ts.length by rw [HTM.out];exact hfm)]
       rfl
      have hr7:=HR6.out
      have HN:Hid (TI w w4 (W6.setCell ⟨w2.heap.size,k * 9+2,none⟩ (.string (str l))) w2.heap.size w3.heap.size g B (some ⟨b1,o1,none⟩) n c (xs.map MP.m) S T (k+1) (zs.set k ⟨nodeM x y.m l,q,d⟩)):=by
       have hkp:Kept (twoB w2.heap.size (some w3.heap.size)) wr (W6.setCell ⟨w2.heap.size,k * 9+2,none⟩ (.string (str l))):=HKP6.out.setCell (a:=⟨w2.heap.size,k * 9+2,none⟩) (.inr (.inl rfl)) _;have hset:Kept (oneB w2.heap.size) W6 (W6.setCell ⟨w2.heap.size,k * 9+2,none⟩ (.string (str l))):=(Kept.refl (oneB w2.heap.size) _).setCell (a:=⟨w2.heap.size,k * 9+2,none⟩) (.inr rfl) _;obtain ⟨hkT,hkz,hTk,hwz,hgB⟩:=HK0.out
       have hrow:Rw (W6.setCell ⟨w2.heap.size,k * 9+2,none⟩ (.string (str l))) w2.heap.size (zs.set k ⟨nodeM x y.m l,q,d⟩):=by
        have h:=Rw.lead (k:=k) hr7 (by rw [List.length_set];exact hkz) l
        rw [List.set_set,getSet zs k k _ hkz,if_pos rfl] at h;exact h
       refine Lib.hid (hI.out.step hkT hkp (hI.out.bel.trans (hkp.below hI.out.bel.size (fun b hb => by
        rcases hb with hb | hb
        ·rw [hb];exact hwz.1
        ·injection hb with hb;rw [hb];exact hwz.2.1))) hwz hgB hrow (hMP.kept hset (fun e => by have h1:=HSZ3.out;have h2:w3.heap.size=w2.heap.size:=e;omega)) ?_ ?_ ?_)
       ·rw [HND.out]
        show nodeM x y.m l=_;rw [if_pos H48.out,hLD]
       ·exact ⟨(HY6.out.bat.kept ((Kept.refl (twoB w2.heap.size (some w3.heap.size)) W6).setCell (a:=⟨w2.heap.size,k * 9+2,none⟩) (.inr (.inl rfl)) _) (fun _ a ha h => by
         have h1:=HQB.out a ha;rcases h with h | h
         ·omega
         ·injection h with h;omega)),HY6.out.le,HY6.out.mx⟩
       ·exact HQB.out
      have r2:=(hr7.cells9 (show k < (zs.set k ⟨nodeM x y.m [],q,d⟩).length by rw [List.length_set];exact HK0.out.2.1)).2.2.1
      have f2:=Blk.frozen hr7 (k * 9+2);have hkm:(k:Int) < (m:Int):=by omega
      have hfz:(f:Int) < (m:Int):=by omega
      have hf0:(0:Int)≤(f:Int):=by omega
      clear hr7 hMP hLD hl HLK
      go_wp2
      go_roundw
      case rel => exact ⟨k+1,_,by omega,by go_num,HN⟩
      case measure => simp [RowKit.intOf];omega
   ·rw [decide_eq_false h48] at ek
    have HN:Hid (TI w w4 W6 w2.heap.size w3.heap.size g B (some ⟨b1,o1,none⟩) n c (xs.map MP.m) S T (k+1) (zs.set k ⟨nodeM x y.m [],q,d⟩)):=by
     obtain ⟨hkT,hkz,hTk,hwz,hgB⟩:=HK0.out
     refine Lib.hid (hI.out.step hkT HKP6.out (hI.out.bel.trans (HKP6.out.below hI.out.bel.size (fun b hb => by
      rcases hb with hb | hb
      ·rw [hb];exact hwz.1
      ·injection hb with hb;rw [hb];exact hwz.2.1))) hwz hgB HR6.out ?_ ?_ HY6.out HQB.out)
     ·rw [leads_other hkT (by rw [hTk,HG0.out];exact h48)]
      exact HM6.out
     ·rw [HND.out,if_neg h48]
    clear h48
    go_wp2
    go_roundw
    case rel => exact ⟨k+1,_,by omega,by go_num,HN⟩
    case measure => simp [RowKit.intOf];omega
  ·have hks:¬ ((k:Int) < (m:Int)):=by omega
   have P:Hid (zs.map NP.m=treeD (xs.map MP.m) S∧NodesAt wr (some ⟨w2.heap.size,0,none⟩) (treeD (xs.map MP.m) S).length zs∧(treeD (xs.map MP.m) S).length=m):=Lib.hid (by
    have hl:=hI.out.len;have hkm:k=T.length:=by rw [HTL.out];omega
    have e:zs.map NP.m=treeD (xs.map MP.m) S:=by
     rw [HTD.out];apply List.ext_getElem
     ·rw [List.length_map,List.length_map,hl]
     ·intro i h1 h2
      rw [List.length_map] at h1 h2;have:=hI.out.done i (by omega)
      rw [List.getD,List.getElem?_eq_getElem h1,List.getD,List.getElem?_eq_getElem h2] at this
      simpa using this
    have hlen:(treeD (xs.map MP.m) S).length=m:=by rw [HTD.out,List.length_map,HTL.out]
    refine ⟨e,?_,hlen⟩;have:=hI.out.row.nodes (fun x hx => (hI.out.bods x hx).1)
    rw [hl,HTL.out] at this
    rw [hlen];exact this)
   go_wp2
   go_ret
   refine ⟨some ⟨w2.heap.size,0,none⟩,m,zs,by rw [P.out.2.2];rfl,P.out.1,P.out.2.1,by rw [P.out.2.2];exact Nat.le_refl _,by unfold maxLen;omega,hI.out.bel,fun x hx => ?_,fun y hy x hx => ?_⟩
   ·cases hx
    exact HB2.out.size
   ·exact Nat.le_trans HB4.out.size ((hI.out.bods y hy).2 x hx)
end Go.Proofs.YtfhelebejclalaaDoor.Tre
end
section
namespace Go.Proofs.YtfhelebejclalaaDoor.Lnk
open Go.ChangeShapes Go.WideShapes Go.ChangeAt Go.RowKit Base Byt Txt Bk Mk Mem Tre Go.Lib
set_option linter.unusedVariables false
set_option maxRecDepth 100000
theorem rm_made {w':World} {B g n:Nat} (h:w'.ownsRow B 50 8 (.slice (some ⟨g,0,none⟩) n n) n (madeCells #[.string ⟨#[]⟩,.string ⟨#[]⟩,.int .u8 0,.int .i64 0,.int .i64 0,.int .i64 0,.int .i64 0,.slice none 0 0] (n * 8)).toList):Rm w' g (List.replicate n zeroP):=by
 rcases h.2 with ⟨h1,_⟩ | ⟨g',cap,cur,h1,_,hg,h2,h3,h4,h5⟩
 ·cases h1
 ·cases h1
  refine ⟨cur,hg,by rw [List.length_replicate];omega,fun i hi j hj => ?_⟩
  rw [List.length_replicate] at hi
  have e:(List.replicate n zeroP).getD i zeroP=zeroP:=by
   rw [List.getD,List.getElem?_replicate,if_pos hi];rfl
  have h6:cur.toList[8 * i+j]? = (madeCells #[Value.string ⟨#[]⟩,.string ⟨#[]⟩,.int .u8 0,.int .i64 0,.int .i64 0,.int .i64 0,.int .i64 0,.slice none 0 0] (n * 8)).toList[8 * i+j]?:=by
   rw [← h5,List.getElem?_take,if_pos (by omega)]
  rw [e,← Array.getElem?_toList,h6,Array.getElem?_toList];unfold madeCells;rw [Array.getElem?_map,Array.getElem?_range,if_pos (by omega)]
  simp only [Option.map_some];rw [show (8 * i+j) % (#[Value.string ⟨#[]⟩,.string ⟨#[]⟩,.int .u8 0,.int .i64 0,.int .i64 0,.int .i64 0,.int .i64 0,.slice none 0 0]:Array Value).size=j by show (8 * i+j) % 8=j;omega]
  match j,hj with
  | 0,_ => rfl
  | 1,_ => rfl
  | 2,_ => rfl
  | 3,_ => rfl
  | 4,_ => rfl
  | 5,_ => rfl
  | 6,_ => rfl
  | 7,_ => rfl
theorem rm_cell {W:World} {g:Nat} {ys:List MP} (h:Rm W g ys) {k j:Nat} (hk:k < ys.length) (hj:j < 8) (u:Value) (y:MP) (hy:∀ i,i < 8 → y.cs[i]? = if i=j then some u else (ys.getD k zeroP).cs[i]?):Rm (W.setCell ⟨g,k * 8+j,none⟩ u) g (ys.set k y):=by
 obtain ⟨cur,hb,hs,hc⟩:=h;refine ⟨cur.setIfInBounds (k * 8+j) u,blk_setIf hb _ u,by rw [List.length_set];simpa using hs,fun i hi l hl => ?_⟩
 rw [List.length_set] at hi;rw [getSetP ys k i y hk,Array.getElem?_setIfInBounds]
 by_cases hik:i=k
 ·subst hik
  rw [if_pos rfl,hy l hl]
  by_cases hlj:l=j
  ·subst hlj
   rw [if_pos (by omega),if_pos (by omega),if_pos rfl]
  ·rw [if_neg (by omega),if_neg hlj,hc i hi l hl]
 ·rw [if_neg hik,if_neg (by omega),hc i hi l hl]
theorem rm_hard {W:World} {g:Nat} {ys:List MP} {k:Nat} {m:MemV} {p:Option Addr} {c:Nat} (h:Rm W g (ys.set k ⟨m,p,c⟩)) (hk:k < ys.length) (l:List UInt8) :
 Rm ((W.setCell ⟨g,k * 8+2,none⟩ (.int .u8 49)).setCell ⟨g,k * 8+1,none⟩ (.string (str l))) g (ys.set k ⟨{ m with kind:=49,target:=l },p,c⟩):=by
 have hk1:k < (ys.set k ⟨m,p,c⟩).length:=by rw [List.length_set];exact hk
 have h1:=rm_cell h hk1 (j:=2) (by omega) (.int .u8 49) ⟨{ m with kind:=49 },p,c⟩ (fun i hi => by
  rw [getSetP ys k k _ hk,if_pos rfl]
  match i,hi with
  | 0,_ => rfl
  | 1,_ => rfl
  | 2,_ => rfl
  | 3,_ => rfl
  | 4,_ => rfl
  | 5,_ => rfl
  | 6,_ => rfl
  | 7,_ => rfl)
 rw [List.set_set] at h1
 have h2:=rm_cell h1 (k:=k) (j:=1) (by rw [List.length_set];exact hk) (by omega) (.string (str l)) ⟨{ m with kind:=49,target:=l },p,c⟩ (fun i hi => by
  rw [getSetP ys k k _ hk,if_pos rfl]
  match i,hi with
  | 0,_ => rfl
  | 1,_ => rfl
  | 2,_ => rfl
  | 3,_ => rfl
  | 4,_ => rfl
  | 5,_ => rfl
  | 6,_ => rfl
  | 7,_ => rfl)
 rw [List.set_set] at h2;exact h2
theorem rm_bytes {W:World} {g:Nat} {ys:List MP} {k:Nat} {m:MemV} {p:Option Addr} {c:Nat} (h:Rm W g (ys.set k ⟨m,p,c⟩)) (hk:k < ys.length) (b:List UInt8) (q:Option Addr) (d:Nat) :
 Rm (W.setCell ⟨g,k * 8+7,none⟩ (.slice q b.length d)) g (ys.set k ⟨{ m with body:=b },q,d⟩):=by
 have hk1:k < (ys.set k ⟨m,p,c⟩).length:=by rw [List.length_set];exact hk
 have h1:=rm_cell h hk1 (j:=7) (by omega) (.slice q b.length d) ⟨{ m with body:=b },q,d⟩ (fun i hi => by
  rw [getSetP ys k k _ hk,if_pos rfl]
  match i,hi with
  | 0,_ => rfl
  | 1,_ => rfl
  | 2,_ => rfl
  | 3,_ => rfl
  | 4,_ => rfl
  | 5,_ => rfl
  | 6,_ => rfl
  | 7,_ => rfl)
 rw [List.set_set] at h1;exact h1
theorem bodyZ (w:World) (m:MemV) (h:m.body=[]):BodyAt w ⟨m,none,0⟩:=by
 refine ⟨?_,?_,Nat.zero_le _⟩
 ·show BAt w none m.body.length m.body
  rw [h];exact BAt.none_ w none
 ·show m.body.length≤0
  rw [h];exact Nat.le_refl _
structure MbsI (w w2 w4 wr:World) (M g:Nat) (t:List NodeV) (os:List (List UInt8)) (n k:Nat) (ys:List MP):Prop where
 bel:Below w2.heap.size w2 wr
 kp:w4.heap.size≤wr.heap.size
 map:MapK strK wr M (numsK (firstP t os k))
 row:Rm wr g ys
 len:ys.length=n
 done:∀ i,i < k → (ys.getD i zeroP).m=memAt t os i
 bods:∀ y ∈ ys,BodyAt wr y ∧ ∀ a,y.p=some a → w4.heap.size≤a.block
section
variable {w w2 w4 wr W':World} {M g n k:Nat} {t:List NodeV} {os:List (List UInt8)} {ys:List MP}
theorem MbsI.step (h:MbsI w w2 w4 wr M g t os n k ys) (hk:k < n) (hkp:Kept (twoB g (some M)) wr W') (hg:w2.heap.size≤g∧g < w4.heap.size∧w2.heap.size≤M∧M < w4.heap.size)
 {y:MP} (hrow:Rm W' g (ys.set k y)) (hmap:MapK strK W' M (numsK (firstP t os (k+1)))) (hy:y.m=memAt t os k) (hby:BodyAt W' y) (hya:∀ a,y.p=some a → w4.heap.size≤a.block) :
 MbsI w w2 w4 W' M g t os n (k+1) (ys.set k y):=by
 have hkz:k < ys.length:=by rw [h.len];exact hk
 refine ⟨h.bel.trans (hkp.below h.bel.size (fun b hb => ?_)),Nat.le_trans h.kp hkp.size,hmap,hrow,by rw [List.length_set];exact h.len,fun j hj => ?_,fun x hx => ?_⟩
 ·rcases hb with hb | hb
  ·rw [hb];exact hg.1
  ·injection hb with hb;rw [hb];exact hg.2.2.1
 ·rw [getSetP ys k j y hkz]
  by_cases h1:j=k
  ·rw [if_pos h1,h1];exact hy
  ·rw [if_neg h1];exact h.done j (by omega)
 ·rcases List.mem_or_eq_of_mem_set hx with hx | rfl
  ·obtain ⟨h1,h2⟩:=h.bods x hx
   refine ⟨h1.kept hkp (fun _ a ha e => ?_),h2⟩
   have:=h2 a ha;rcases e with e | e
   ·omega
   ·injection e with e;omega
  ·exact ⟨hby,hya⟩
end
theorem lm_yes {t:List NodeV} {os:List (List UInt8)} (hg:goodT t=true) (ho:OrderOf t os):lmD t os=(linksD t os,0):=by
 unfold lmD;rw [if_pos ((orderB_iff hg os).2 ho)]
theorem lm_no {t:List NodeV} {os:List (List UInt8)} (hg:goodT t=true) (ho:¬ OrderOf t os):lmD t os=([],1):=by
 unfold lmD;rw [if_neg (fun h => ho ((orderB_iff hg os).1 h))]
set_option maxHeartbeats 16000000 in
theorem lmembers_any (w:World) (p:Option Addr) (n c:Nat) (xs:List NP) (a:Option Addr) (m d:Nat) (os:List (List UInt8)) (hN:NodesOk w p n c xs) (hO:OrderOk w a m d os) :
 Calls Tryd.prog 12 #[.slice p n c,.slice a m d] w (LMemPost w (lmD (xs.map NP.m) os)):=by
 obtain ⟨i0,hi,hz0,hz1,hz2⟩:=info_parts infoMem;have HI:=Lib.hid hi;have HZ0:=Lib.hid hz0;have HZ1:=Lib.hid hz1;have HZ2:=Lib.hid hz2;have hmm:=@run_makeMap Tryd.prog;have HIO:=Lib.hid (inOrder_any w p n c xs a m d os hN hO);have hfew:=hN.few;have HG:=Lib.hid hN.good;have HO:=Lib.hid hO.at_;have HRB:=Lib.hid hN.room;have HXA:=Lib.hid hN.at_.2.1;obtain ⟨t,ht⟩:∃ t,xs.map NP.m=t:=⟨_,rfl⟩;have HT:=Lib.hid ht;unfold InOPost at HIO;rw [ht] at HIO HG ⊢;clear hi hz0 hz1 hz2 hN hO ht
 go_enter Tryd.func12,Tryd.ntmps12
 go_wp2_with fail
 refine HIO.out.mono ?_
 rintro e w2 (⟨q,zs,rfl,htk,hzl,hol,hnod,hord,hb2⟩ | ⟨rfl,hno,hb2⟩)
 ·have HTK:=Lib.hid htk
  have HZL:=Lib.hid hzl;have HOL:=Lib.hid hol;have HND:=Lib.hid hnod;have HORD:=Lib.hid hord;have HB2:=Lib.hid hb2;clear htk hzl hol hnod hord hb2 HIO
  go_wp2_with (at_make;refine wpList_make_full _ rfl _ _ 28 rfl w2.heap.size 50 i0 _ 8 Tryd.underlying28 HI.out HZ0.out HZ1.out .i64 .i64 _ _ n rfl rfl rfl rfl (by rw [HZ2.out];omega) (by unfold maxLen;omega) (Nat.le_refl _) ?_)
  intro w3 hmade hgrow;have hrw:Rm w3 w2.heap.size (List.replicate n zeroP):=rm_made (B:=w2.heap.size) hmade;have hk3:Kept noneB w2 w3:=(Kept.refl noneB w2).grown hgrow (fun k h => by cases h)
  have hb3:Below w2.heap.size w2 w3:=hk3.below (Nat.le_refl _) (fun _ h => h.elim)
  have hlt3:w2.heap.size < w3.heap.size:=by
   obtain ⟨cur,hc,_⟩:=hrw;exact hc.lt
  obtain ⟨w4,hw4⟩:∃ w4,w3.alloc (.map #[] 0)=w4:=⟨_,rfl⟩;have hb4:Below w3.heap.size w3 w4:=by rw [← hw4];exact (Below.refl _ _).alloc (Nat.le_refl _) _
  have hmp:MapK strK w4 w3.heap.size (fun _ => none):=by rw [← hw4];exact mapK_made strK w3
  have hsz4:w4.heap.size=w3.heap.size+1:=by rw [← hw4];simp
  have HMB:Hid (MbsI w w2 w4 w4 w3.heap.size w2.heap.size t os n 0 (List.replicate n zeroP)):=Lib.hid
   { bel:=hb3.trans (hb4.mono hb3.size)
     kp:=Nat.le_refl _
     map:=by
      have e:numsK (firstP t os 0)=fun _ => none:=by funext l;rfl
      rw [e];exact hmp
     row:=rm_below hrw hb4
     len:=by simp
     done:=fun i hi => by omega
     bods:=fun y hy => by
      rw [(List.mem_replicate.1 hy).2]
      exact ⟨bodyZ _ zeroM rfl,fun a h => by cases h⟩ }
  have HSZ:Hid (w2.heap.size≤w2.heap.size∧w2.heap.size < w4.heap.size∧w2.heap.size≤w3.heap.size∧w3.heap.size < w4.heap.size):=Lib.hid ⟨Nat.le_refl _,by omega,by omega,by omega⟩
  obtain ⟨M,hM⟩:∃ M,w3.heap.size=M:=⟨_,rfl⟩;rw [hM] at HMB HSZ;clear hmade hgrow hrw hk3 hb3 hb4 hmp hsz4 hlt3
  go_upto_region 6 with fail
  clear hw4 hmm hM
  go_wp2_with fail
  go_loopw [10,11,12,13,28] (fun _ _ _ _ i wr => ∃ (k:Nat) (ys:List MP),k≤n∧i=.int .i64 (k:Int)∧Hid (MbsI w w2 w4 wr M w2.heap.size t os n k ys)) (fun _ _ _ _ i _ => n - (RowKit.intOf i).toNat)
  case atStart => exact ⟨0,_,Nat.zero_le _,rfl,HMB⟩
  case round =>
   obtain ⟨k,ys,hk,rfl,hI⟩:=hrel
   by_cases hlt:k < n
   ·have hkz:k < ys.length:=by rw [hI.out.len];exact hlt
    obtain ⟨b1,o1,rfl,hb1,hBd,hc⟩:=(HND.out.below hI.out.bel).cells9 hlt;have hfind:=took_find HTK.out hlt;obtain ⟨v,hv⟩:∃ v,zs.getD k zeroQ=v:=⟨_,rfl⟩;rw [hv] at hBd hc hfind;have hin:v ∈ xs:=List.mem_of_find?_eq_some hfind
    have hnd:nodeAt t (os.getD k [])=v.m:=by
     unfold nodeAt;rw [← HT.out,← findP_map,hfind];rfl
    have hgd:=node_good HG.out (x:=v.m) (by rw [← HT.out];exact List.mem_map.2 ⟨v,hin,rfl⟩)
    have hrm:=HRB.out v hin;have HXB:=Lib.hid (HXA.out v hin);obtain ⟨c0,c1,c2,c3,c4,c5,c6,c7,c8⟩:=hc;obtain ⟨W5,hW5⟩:∃ W5,wr.alloc (.cells v.cs 45)=W5:=⟨_,rfl⟩;have hB5:Below wr.heap.size wr W5:=by rw [← hW5];exact (Below.refl _ _).alloc (Nat.le_refl _) _
    have hBN:Blk W5 wr.heap.size 45 v.cs:=by rw [← hW5];exact Blk.new wr _ _
    have hM5:=hI.out.map.kept (Kept.of_below hB5 noneB) (fun h => h.elim)
    have hR5:=rm_below hI.out.row hB5;have hgw:w2.heap.size < wr.heap.size:=by have h1:=HSZ.out.2.1;have h2:=hI.out.kp;omega
    have HGW:=Lib.hid hgw;unfold NP.cs nodC at hW5;have ek:=kind_nq1 v.m.kind 48 48 rfl;obtain ⟨kn,hkn⟩:∃ kn:Int,(v.m.kind.toNat:Int)=kn:=⟨_,rfl⟩;have HKN:=Lib.hid hkn;have z0:=hBN.cell 0;have z1:=hBN.cell 1;have z3:=hBN.cell 3;have z4:=hBN.cell 4;have z5:=hBN.cell 5;have z6:=hBN.cell 6;have z7:=hBN.cell 7;simp only [NP.cs,nodC,List.getElem?_toArray,List.getElem?_cons_zero,List.getElem?_cons_succ] at z0 z1 z3 z4 z5 z6 z7;rw [hkn] at hW5 c3 z3 ek;obtain ⟨r0,r1,r2,r3,r4,r5,r6,r7⟩:=hR5.cells8 hkz
    have hfz:∀ i,W5.frozen? ⟨w2.heap.size,i,none⟩=false:=fun i => by
     obtain ⟨cur,hc,_⟩:=hR5;exact hc.frozen i
    have f0:=hfz (k * 8);have f1:=hfz (k * 8+1);have f2:=hfz (k * 8+2);have f3:=hfz (k * 8+3);have f4:=hfz (k * 8+4);have f5:=hfz (k * 8+5);have f6:=hfz (k * 8+6);have f7:=hfz (k * 8+7);have HB5:=Lib.hid hB5;have HBN:=Lib.hid hBN;have HM5:=Lib.hid hM5;have HR5:=Lib.hid hR5;have HNA:=Lib.hid hnd;have HGD:=Lib.hid hgd;have HRM:=Lib.hid hrm;have HBD:=Lib.hid hBd;have HKZ:=Lib.hid hkz;have hltz:(k:Int) < (n:Int):=by omega
    clear hkz hb1 hBd hfind hv hin hnd hgd hrm hB5 hBN hM5 hR5 hgw hkn hfz
    go_upto_region 9 with fail
    clear hW5 c0 c1 c2 c3 c4 c5 c6 c7 c8
    go_upto_region 10 with fail
    obtain ⟨W6,hW6⟩:∃ W6,((((((((W5.setCell ⟨w2.heap.size,k * 8,none⟩ (.string (str v.m.path))).setCell ⟨w2.heap.size,k * 8+1,none⟩ (.string (str v.m.target))).setCell ⟨w2.heap.size,k * 8+2,none⟩ (.int .u8 kn)).setCell ⟨w2.heap.size,k * 8+3,none⟩ (.int .i64 v.m.mode)).setCell ⟨w2.heap.size,k * 8+4,none⟩ (.int .i64 v.m.uid)).setCell ⟨w2.heap.size,k * 8+5,none⟩ (.int .i64 v.m.gid)).setCell ⟨w2.heap.size,k * 8+6,none⟩ (.int .i64 v.m.time)).setCell ⟨w2.heap.size,k * 8+7,none⟩ (.slice none 0 0))=W6:=⟨_,rfl⟩;obtain ⟨mv,hmv⟩:∃ mv:MemV,(⟨v.m.path,v.m.target,v.m.kind,v.m.mode,v.m.uid,v.m.gid,v.m.time,[]⟩:MemV)=mv:=⟨_,rfl⟩
    have hp6:put8 W5 w2.heap.size (k * 8) ⟨mv,none,0⟩=W6:=by
     rw [← hW6,← hmv,← HKN.out];rfl
    have hr6:Rm W6 w2.heap.size (ys.set k ⟨mv,none,0⟩):=by rw [← hp6];exact HR5.out.set HKZ.out ⟨mv,none,0⟩
    have hk56:Kept (oneB w2.heap.size) W5 W6:=by rw [← hp6];exact put8_kept (S:=oneB w2.heap.size) rfl _
    have hgM:w2.heap.size≠M:=by
     obtain ⟨cur,hc,_⟩:=HR5.out;exact blk_not_map hc HM5.out
    have hk6:Kept (twoB w2.heap.size (some M)) wr W6:=(Kept.of_below HB5.out _).trans (hk56.mono (fun b h => .inl h))
    have hn6:Blk W6 wr.heap.size 45 v.cs:=HBN.out.keptS hk56 (fun e => by have h1:=HGW.out;have h2:wr.heap.size=w2.heap.size:=e;omega)
    have hm6:MapK strK W6 M (numsK (firstP t os k)):=HM5.out.kept hk56 (fun e => hgM (show M=w2.heap.size from e).symm)
    have HMV:=Lib.hid hmv;have HR6:=Lib.hid hr6;have HK6:=Lib.hid hk6;have HN6:=Lib.hid hn6;have HM6:=Lib.hid hm6;have HGM:=Lib.hid hgM;have y2:W6.cell? ⟨wr.heap.size,2,none⟩=some (.string (str v.m.leader)):=hn6.cell 2;have y3:W6.cell? ⟨wr.heap.size,3,none⟩=some (.int .u8 kn):=by rw [← HKN.out];exact hn6.cell 3
    rw [hW6];clear hW6 hp6 hr6 hk56 hk6 hn6 hm6 hgM hmv r0 r1 r2 r3 r4 r5 r6 r7 f0 f1 f2 f3 f4 f5 f6 f7 z0 z1 z3 z4 z5 z6 z7;have hBZ:mv.body=[]:=by rw [← HMV.out]
    have HBZ:=Lib.hid hBZ;clear hBZ
    by_cases h48:v.m.kind=48
    ·rw [decide_eq_true h48,Bool.not_true] at ek
     have H48:Hid ((nodeAt t (os.getD k [])).kind=48):=Lib.hid (by rw [HNA.out];exact h48)
     have lk:=HM6.out.look_ok (P:=Tryd.prog) Tryd.underlying57 Tryd.underlying9 (z:=.int .i64 0) (fun w => Tryd.zeroValue3 w) v.m.leader
     obtain ⟨fo,hfo⟩:∃ fo,firstP t os k v.m.leader=fo:=⟨_,rfl⟩;have HFO:Hid (firstP t os k (nodeAt t (os.getD k [])).leader=fo):=Lib.hid (by rw [HNA.out];exact hfo)
     unfold numsK at lk;rw [hfo] at lk;clear h48 hfo
     cases fo with
     | some f =>
       have lk2:(Instr.lookup 57 (.map (some M)) (.string (str v.m.leader)) true).run Tryd.prog W6=.ok (.tuple #[.int .i64 (f:Int),.bool true]) W6:=lk;have hfk:f < k:=first_lt HFO.out;have hmn:m=n:=by rw [← HO.out.1,HOL.out]
       have hb26:Below w2.heap.size w2 W6:=hI.out.bel.trans (HK6.out.below hI.out.bel.size (fun b hb => by
        rcases hb with hb | hb
        ·rw [hb];exact Nat.le_refl _
        ·injection hb with hb;rw [hb];exact HSZ.out.2.2.1))
       obtain ⟨b3,o3,rfl,hb3,hc3⟩:=((HO.out.below HB2.out).below hb26).2 (by omega)
       have q0:=hc3 f (by omega)
       obtain ⟨s,hs⟩:∃ s,os.getD f []=s:=⟨_,rfl⟩;rw [hs] at q0;have HS:=Lib.hid hs;have hkz2:k < (ys.set k ⟨mv,none,0⟩).length:=by rw [List.length_set];exact HKZ.out
       obtain ⟨r0,r1,r2,r3,r4,r5,r6,r7⟩:=HR6.out.cells8 hkz2
       have hfz:∀ i,W6.frozen? ⟨w2.heap.size,i,none⟩=false:=fun i => by
        obtain ⟨cur,hc,_⟩:=HR6.out;exact hc.frozen i
       have f1:=hfz (k * 8+1);have f2:=hfz (k * 8+2);have hfz0:(0:Int)≤(f:Int):=by omega
       have hfz1:(f:Int) < (m:Int):=by omega
       clear lk hfk hmn hb26 hb3 hc3 hs hkz2 hfz r0 r3 r4 r5 r6 r7
       go_upto_region 16 with fail
       obtain ⟨W7,hW7⟩:∃ W7,(W6.setCell ⟨w2.heap.size,k * 8+2,none⟩ (.int .u8 49)).setCell ⟨w2.heap.size,k * 8+1,none⟩ (.string (str s))=W7:=⟨_,rfl⟩;have hr7:Rm W7 w2.heap.size (ys.set k ⟨{ mv with kind:=49,target:=s },none,0⟩):=by rw [← hW7];exact rm_hard HR6.out HKZ.out s
       have hk7:Kept (oneB w2.heap.size) W6 W7:=by rw [← hW7];exact ((Kept.refl (oneB w2.heap.size) W6).setCell (a:=⟨w2.heap.size,k * 8+2,none⟩) (.inr rfl) _).setCell (a:=⟨w2.heap.size,k * 8+1,none⟩) (.inr rfl) _
       have HN:Hid (MbsI w w2 w4 W7 M w2.heap.size t os n (k+1) (ys.set k ⟨{ mv with kind:=49,target:=s },none,0⟩)):=Lib.hid
        (hI.out.step hlt (HK6.out.trans (hk7.mono (fun b h => .inl h))) HSZ.out hr7 (by
         rw [first_old HFO.out]
         exact HM6.out.kept hk7 (fun e => HGM.out (show M=w2.heap.size from e).symm))
         (by rw [mem_old H48.out HFO.out,HNA.out,HS.out,← HMV.out];rfl) (bodyZ _ _ HBZ.out) (fun a h => by cases h))
       rw [hW7];clear hW7 hr7 hk7 r1 r2 f1 f2
       go_wp2
       go_roundw
       case rel => exact ⟨k+1,_,by omega,by go_num,HN⟩
       case measure => simp [RowKit.intOf];omega
     | none =>
       have lk2:(Instr.lookup 57 (.map (some M)) (.string (str v.m.leader)) true).run Tryd.prog W6=.ok (.tuple #[.int .i64 0,.bool false]) W6:=lk;clear lk
       go_wp2_with (at_mapUpdate;refine wpList_putK (K:=strK) rfl (.tmp 68) (.tmp 70) (.tmp 71) rfl Tryd.underlying57 Tryd.underlying9 M HM6.out rfl v.m.leader rfl (.int .i64 (k:Int)) rfl ?_)
       intro w7 hm7 hk7 hs7
       have hmap7:MapK strK w7 M (numsK (firstP t os (k+1))):=by
        have e:numsK (firstP t os (k+1))=fun z => if z=v.m.leader then some (.int .i64 (k:Int)) else numsK (firstP t os k) z:=by
         funext z
         unfold numsK;rw [first_new H48.out HFO.out,HNA.out]
         by_cases h:z=v.m.leader<;>simp [h]
        rw [e];exact hm7.out
       have hkw7:Kept (twoB w2.heap.size (some M)) wr w7:=HK6.out.trans (hk7.out.mono (fun b h => .inr (by rw [show b=M from h])))
       have hb27:Below w2.heap.size w2 w7:=hI.out.bel.trans (hkw7.below hI.out.bel.size (fun b hb => by
        rcases hb with hb | hb
        ·rw [hb];exact Nat.le_refl _
        ·injection hb with hb;rw [hb];exact HSZ.out.2.2.1))
       have hn7:Blk w7 wr.heap.size 45 v.cs:=HN6.out.keptS hk7.out (fun e => by have h1:=HSZ.out.2.2.2;have h2:wr.heap.size=M:=e;have h3:=hI.out.kp;omega)
       have hr7:Rm w7 w2.heap.size (ys.set k ⟨mv,none,0⟩):=by
        obtain ⟨cur,hc,h2,h3⟩:=HR6.out;exact ⟨cur,hc.keptS hk7.out HGM.out,h2,h3⟩
       have hcl:=clone_any v.p v.m.body.length v.c v.m.body w7 ((HXB.out.below HB2.out).below hb27).bat rfl HRM.out.2.2.2;have y8:w7.cell? ⟨wr.heap.size,8,none⟩=some (.slice v.p v.m.body.length v.c):=hn7.cell 8;have HMAP7:=Lib.hid hmap7;have HKW7:=Lib.hid hkw7;have HR7:=Lib.hid hr7;have HCL:=Lib.hid hcl;clear hm7 hk7 hs7 hmap7 hkw7 hb27 hn7 hr7 hcl y2 y3 lk2
       go_wp2_with fail
       refine HCL.out.mono ?_
       rintro e w8 ⟨q8,d8,rfl,hle,hmx,hbt,hnew,hb8⟩;have hr8:=rm_below HR7.out hb8;have hkz2:k < (ys.set k ⟨mv,none,0⟩).length:=by rw [List.length_set];exact HKZ.out
       obtain ⟨r0,r1,r2,r3,r4,r5,r6,r7⟩:=hr8.cells8 hkz2
       have f7:w8.frozen? ⟨w2.heap.size,k * 8+7,none⟩=false:=by
        obtain ⟨cur,hc,_⟩:=hr8;exact hc.frozen _
       have hsz7:=HKW7.out.size
       have hq8:∀ x,q8=some x → w4.heap.size≤x.block:=fun x hx => by
        have h1:=hnew x hx;have h2:=hI.out.kp;omega
       have HN:Hid (MbsI w w2 w4 (w8.setCell ⟨w2.heap.size,k * 8+7,none⟩ (.slice q8 v.m.body.length d8)) M w2.heap.size t os n (k+1) (ys.set k ⟨{ mv with body:=v.m.body },q8,d8⟩)):=by
        have hks:Kept (oneB w2.heap.size) w8 (w8.setCell ⟨w2.heap.size,k * 8+7,none⟩ (.slice q8 v.m.body.length d8)):=(Kept.refl (oneB w2.heap.size) w8).setCell (a:=⟨w2.heap.size,k * 8+7,none⟩) (.inr rfl) _
        refine Lib.hid (hI.out.step hlt ((HKW7.out.trans (Kept.of_below hb8 _)).trans (hks.mono (fun b h => .inl h))) HSZ.out (rm_bytes hr8 HKZ.out v.m.body q8 d8)
         ((HMAP7.out.kept (Kept.of_below hb8 noneB) (fun h => h.elim)).kept hks (fun e => HGM.out (show M=w2.heap.size from e).symm))
         (by rw [mem_new H48.out HFO.out,HNA.out,← HMV.out];rfl) ⟨hbt.kept hks (fun _ x hx e => ?_),hle,hmx⟩ hq8)
        have h1:=hq8 x hx;have h2:=HSZ.out.2.1;have h3:x.block=w2.heap.size:=e;omega
       clear hle hmx hbt hnew hb8 hr8 hkz2 hsz7 hq8 r0 r1 r2 r3 r4 r5 r6
       go_wp2
       go_roundw
       case rel => exact ⟨k+1,_,by omega,by go_num,HN⟩
       case measure => simp [RowKit.intOf];omega
    ·rw [decide_eq_false h48,Bool.not_false] at ek
     have HN:Hid (MbsI w w2 w4 W6 M w2.heap.size t os n (k+1) (ys.set k ⟨mv,none,0⟩)):=Lib.hid
      (hI.out.step hlt HK6.out HSZ.out HR6.out (by rw [first_other (by rw [HNA.out];exact h48)];exact HM6.out)
       (by
        rw [mem_other (by rw [HNA.out];exact h48),HNA.out,← HMV.out]
        unfold NodeV.mem
        rw [body_other HGD.out.2.1 h48]) (bodyZ _ _ HBZ.out) (fun a h => by cases h))
     clear h48
     go_wp2
     go_roundw
     case rel => exact ⟨k+1,_,by omega,by go_num,HN⟩
     case measure => simp [RowKit.intOf];omega
   ·obtain rfl:k=n:=by omega
    have hks:¬ ((k:Int) < (k:Int)):=by omega
    have F:Hid (LMemPost w (linksD t os,0) (.returned (.tuple #[.slice (some ⟨w2.heap.size,0,none⟩) k k,.int .i64 0])) wr):=Lib.hid (by
     have hl:(linksD t os).length=k:=by rw [linksD_len HORD.out,HOL.out]
     have hm:ys.map MP.m=linksD t os:=by
      apply List.ext_getElem
      ·rw [List.length_map,hI.out.len,hl]
      ·intro i h1 h2
       rw [List.length_map] at h1;have h3:=hI.out.done i (by rw [← hI.out.len];exact h1)
       have h4:=linksD_get HORD.out (show i < os.length by rw [HOL.out,← hI.out.len];exact h1)
       rw [getP_eq h1] at h3;rw [List.getElem_map,h3,← h4,List.getD,List.getElem?_eq_getElem h2];rfl
     have hmm:=hI.out.row.mems (fun y hy => (hI.out.bods y hy).1)
     rw [hI.out.len] at hmm
     refine ⟨some ⟨w2.heap.size,0,none⟩,k,ys,by rw [hl],hm,by rw [hl];exact hmm,by rw [hl];exact Nat.le_refl _,by unfold maxLen;omega,HB2.out.trans (hI.out.bel.mono HB2.out.size)⟩)
    have E:Hid (lmD t os=(linksD t os,0)):=Lib.hid (lm_yes HG.out HORD.out)
    go_wp2
    go_ret2
    rw [E.out];exact F.out
 ·have E:Hid (lmD t os=([],1)):=Lib.hid (lm_no HG.out hno)
  have HB:=Lib.hid hb2;clear hno hb2
  go_wp2
  go_ret2
  unfold LMemPost;rw [E.out];exact ⟨none,0,[],rfl,rfl,mems_nil _ _,Nat.le_refl _,by decide,HB.out⟩
end Go.Proofs.YtfhelebejclalaaDoor.Lnk
end
section
namespace Go.Proofs.YtfhelebejclalaaDoor.Lnk
open Go.ChangeShapes Go.WideShapes Go.ChangeAt Go.RowKit Base Byt Txt Bk Mem Tre Go.Lib
set_option linter.unusedVariables false
theorem linksC:LinksC where
 members w p n c xs a m d os hN hO _:=lmembers_any w p n c xs a m d os hN hO
 sound w p n c xs hN hT:=lsound_any w p n c xs hN hT
 classes w p n c xs hN _:=lclasses_any w p n c xs hN
end Go.Proofs.YtfhelebejclalaaDoor.Lnk
end
section
namespace Go.Proofs.YtfhelebejclalaaDoor.Tre
open Go.ChangeShapes Go.WideShapes Go.ChangeAt Go.RowKit Base Byt Txt Bk Mk Mem Go.Lib
set_option linter.unusedVariables false
set_option maxRecDepth 100000
def FoldPost (w:World) (ms:List MemV) (e:Ending) (w':World):Prop:=
 ∃ q d zs,e=.returned (.tuple #[.slice q (foldD ms).1.length d,.agg #[.int .i64 (foldD ms).2.1,.int .i64 ((foldD ms).2.2:Int)]])∧zs.map NP.m=(foldD ms).1∧NodesAt w' q (foldD ms).1.length zs∧(foldD ms).1.length≤d∧d≤maxLen∧Below w.heap.size w w'∧(∀ x,q=some x → w.heap.size≤x.block)∧(∀ y ∈ zs,∀ x,y.p=some x → w.heap.size≤x.block)
theorem fold_none {w w':World} {ms:List MemV} {e i:Int} {k:Nat} (h:foldD ms=([],e,k)) (hb:Below w.heap.size w w') (hi:i=(k:Int)):FoldPost w ms (.returned (.tuple #[.slice none 0 0,.agg #[.int .i64 e,.int .i64 i]])) w':=
 ⟨none,0,[],by rw [h,hi];rfl,by rw [h];rfl,by rw [h];exact nodes_nil _ _,by rw [h];exact Nat.le_refl _,by decide,hb,(fun x hx => by cases hx),(fun y hy => by cases hy)⟩
set_option maxHeartbeats 4000000 in
theorem tfold_any (p:Option Addr) (n c:Nat) (xs:List MP) (w:World) (hM:MemsAt w p n xs) (hn:n≤1000000) (hF:FitMs xs) (hR:∀ x ∈ xs,x.m.body.length≤140737488351232) (hT:Path.Tabs w) :
 Calls Tryd.prog 18 #[.slice p n c] w (FoldPost w (xs.map MP.m)):=by
 obtain ⟨W,hW⟩:∃ W,w.alloc (.cells #[.int .i64 0,.int .i64 0] 38)=W:=⟨_,rfl⟩;have hB0:Below w.heap.size w W:=by rw [← hW];exact (Below.refl _ _).alloc (Nat.le_refl _) _
 have hX0:Blk W w.heap.size 38 #[.int .i64 0,.int .i64 0]:=by rw [← hW];exact Blk.new w _ _
 have HIX:=Lib.hid (index_any p n c xs W (hM.below hB0) (by omega) hF (hT.below hB0))
 have HM:=Lib.hid hM;have HL:=Lib.hid hM.1;have HF:=Lib.hid hF;have HR:=Lib.hid hR;have HB0:=Lib.hid hB0;have HX0:=Lib.hid hX0;obtain ⟨bo,hbo⟩:∃ bo,badAt (xs.map MP.m)=bo:=⟨_,rfl⟩;rw [hbo] at HIX;have HBO:=Lib.hid hbo;clear hM hF hR hT hB0 hX0 hbo
 go_enter Tryd.func18,Tryd.ntmps18
 go_upto_region 1 with fail
 clear hW
 go_wp2_with fail
 refine HIX.out.mono ?_
 rintro e w1 ⟨rfl,hb1⟩;have HB1:=Lib.hid (HB0.out.trans (hb1.mono HB0.out.size));have hX1:=HX0.out.below hb1 HX0.out.lt;have HX1:=Lib.hid hX1;have x0:=hX1.cell 0;have x1:=hX1.cell 1;have f0:=hX1.frozen 0;have f1:=hX1.frozen 1;simp only [List.getElem?_toArray,List.getElem?_cons_zero,List.getElem?_cons_succ] at x0 x1;clear hb1 hX1 HIX
 cases bo with
 | some i =>
   have hge:(0:Int)≤(i:Int):=by omega
   simp only [idxV]
   go_wp2
   refine bodyPost_ret (ret_fold rfl _ _ w.heap.size _ rfl rfl 1 (i:Int) (blk_flt HX1.out _ _)) rfl ?_
   exact fold_none (foldD_bad HBO.out) ((HB1.out.setCell (p:=⟨w.heap.size,0,none⟩) (Nat.le_refl _) _).setCell (p:=⟨w.heap.size,1,none⟩) (Nat.le_refl _) _) rfl
 | none =>
   simp only [idxV];clear x0 x1 f0 f1;have HNL:=Lib.hid (newLay_any p n c w1)
   go_wp2_with fail
   refine HNL.out.mono ?_
   rintro e w2 ⟨g,B,rfl,hL,hg,hB,hb2⟩;have HB2:=Lib.hid (HB1.out.trans (hb2.mono HB1.out.size));have HX2:=Lib.hid (HX1.out.below hb2 HX1.out.lt);have HGB:=Lib.hid (And.intro hg hB);have HL2:=Lib.hid hL;have HLT1:Hid (w.heap.size < w1.heap.size):=Lib.hid HX1.out.lt;clear hL hg hB hb2 HNL
   go_wp2_with fail
   go_loopw [6,17] (fun _ i wr => ∃ (k:Nat) (S:St),k≤n∧i=.int .i64 (k:Int)∧Hid (laysD (xs.map MP.m) k=.ok S)∧Hid (LayAt wr g B p n c (look S))∧Hid (Below w.heap.size w wr)∧Hid (Blk wr w.heap.size 38 #[.int .i64 0,.int .i64 0])) (fun _ i _ => n - (RowKit.intOf i).toNat)
   case atStart => exact ⟨0,[],Nat.zero_le _,rfl,Lib.hid rfl,Lib.hid HL2.out,HB2,HX2⟩
   case round =>
    obtain ⟨k,S,hk,rfl,hS,hLa,hBw,hXw⟩:=hrel
    by_cases hlt:k < n
    ·have hkl:k < (xs.map MP.m).length:=by rw [List.length_map,HL.out];exact hlt
     have hIn:=laysD_in (xs.map MP.m) k S (by omega) hS.out
     rw [List.length_map,HL.out] at hIn;have HLY:=Lib.hid (lay_any w g B p n c xs S k wr HM.out hBw.out (by have:=HGB.out.2;have:=HLT1.out;omega) (by omega) hlt hIn hLa.out)
     have hltz:(k:Int) < (n:Int):=by omega
     have HKN:Hid ((xs.map MP.m).length=k+1+(n - (k+1))):=Lib.hid (by rw [List.length_map,HL.out];omega)
     unfold LayPost at HLY;obtain ⟨lo,hlo⟩:∃ lo,layD (xs.map MP.m) S k=lo:=⟨_,rfl⟩;rw [hlo] at HLY;have HLO:=Lib.hid hlo;clear hkl hIn hlo
     go_wp2_with fail
     refine HLY.out.mono ?_
     rintro e w3 ⟨rfl,hL3,hk3⟩;have hne:w.heap.size≠B:=by have:=HGB.out.2;have:=HLT1.out;omega
     have hB3:Below w.heap.size w w3:=hBw.out.trans (hk3.below hBw.out.size (fun b hb => by rw [show b=B from hb];have:=HGB.out.2;have:=HLT1.out;omega))
     have hX3:=hXw.out.keptS hk3 (show ¬ oneB B w.heap.size from hne)
     have HB3:=Lib.hid hB3;have HX3:=Lib.hid hX3;have HL3:=Lib.hid hL3;have x0:=hX3.cell 0;have x1:=hX3.cell 1;have f0:=hX3.frozen 0;have f1:=hX3.frozen 1;simp only [List.getElem?_toArray,List.getElem?_cons_zero,List.getElem?_cons_succ] at x0 x1;clear hL3 hk3 hne hB3 hX3 HLY
     cases lo with
     | none =>
       have E:=Lib.hid (foldD_link HBO.out (by rw [HKN.out];exact laysD_stay (laysD_fall hS.out HLO.out) _))
       go_wp2
       refine bodyPost_ret (ret_fold rfl _ _ w.heap.size _ rfl rfl 7 (k:Int) (blk_flt HX3.out _ _)) rfl ?_
       exact fold_none E.out ((HB3.out.setCell (p:=⟨w.heap.size,0,none⟩) (Nat.le_refl _) _).setCell (p:=⟨w.heap.size,1,none⟩) (Nat.le_refl _) _) rfl
     | some S' =>
       have HS':=Lib.hid (laysD_step hS.out HLO.out);clear x0 x1 f0 f1
       go_wp2
       go_roundw
       case rel => exact ⟨k+1,S',by omega,by go_num,HS',HL3,HB3,HX3⟩
       case measure => simp [RowKit.intOf];omega
    ·have hks:¬ ((k:Int) < (n:Int)):=by omega
     have hkn:k=n:=by omega
     have hln:(xs.map MP.m).length=n:=by rw [List.length_map,HL.out]
     have hS':laysD (xs.map MP.m) (xs.map MP.m).length=.ok S:=by rw [hln,← hkn];exact hS.out
     have hok:=laysD_ok _ _ _ hS.out;have E:=Lib.hid (foldD_ok HBO.out hS')
     have HTR:=Lib.hid (tree_any g B p n c xs S wr (HM.out.below hBw.out) (by omega) hLa.out (laysD_apart _ _ _ hS.out) (by have:=laysD_in _ _ S (Nat.le_refl _) hS';rwa [hln] at this) (Nat.le_trans hok.len (by omega)) (fun e he => by
      obtain ⟨j,hj,e2⟩:=hok.from_ e he;rw [e2,getM_map];have:=(HF.out _ (getP_mem xs j (by rw [HL.out];omega))).1
      unfold maxLen
      omega) HR.out)
     clear hkn hln hS' hok
     go_wp2_with fail
     refine HTR.out.mono ?_
     rintro e w3 ⟨q,d,zs,rfl,hz,hnod,hd,hd2,hb3,hq,hy⟩;have HB3:=Lib.hid (hBw.out.trans (hb3.mono hBw.out.size));have hX3:=hXw.out.below hb3 hXw.out.lt;have HX3:=Lib.hid hX3;have HSZ:=Lib.hid (And.intro hBw.out.size hXw.out.lt);have P:=Lib.hid (And.intro hz (And.intro hnod (And.intro hd (And.intro hd2 (And.intro hq hy)))));have x0:=hX3.cell 0;have x1:=hX3.cell 1;have f0:=hX3.frozen 0;have f1:=hX3.frozen 1;simp only [List.getElem?_toArray,List.getElem?_cons_zero,List.getElem?_cons_succ] at x0 x1;clear hz hnod hd hd2 hb3 hq hy hX3
     go_wp2
     refine bodyPost_ret (ret_fold rfl _ _ w.heap.size _ rfl rfl 0 0 (blk_flt HX3.out _ _)) rfl ?_
     have hbf:=(HB3.out.setCell (p:=⟨w.heap.size,0,none⟩) (Nat.le_refl _) (.int .i64 0)).setCell (p:=⟨w.heap.size,1,none⟩) (Nat.le_refl _) (.int .i64 0);have hkf:Kept (oneB w.heap.size) w3 ((w3.setCell ⟨w.heap.size,0,none⟩ (.int .i64 0)).setCell ⟨w.heap.size,1,none⟩ (.int .i64 0)):=((Kept.refl (oneB w.heap.size) w3).setCell (a:=⟨w.heap.size,0,none⟩) (.inr rfl) _).setCell (a:=⟨w.heap.size,1,none⟩) (.inr rfl) _;obtain ⟨hz,hnod,hd,hd2,hq,hy⟩:=P.out;obtain ⟨hs1,hs2⟩:=HSZ.out;refine ⟨q,d,zs,by rw [E.out];rfl,by rw [E.out];exact hz,?_,by rw [E.out];exact hd,hd2,hbf,fun x hx => Nat.le_trans hs1 (hq x hx),fun y hyy x hx => Nat.le_trans hs1 (hy y hyy x hx)⟩
     rw [E.out];refine ⟨hnod.1,fun y hyy => (hnod.2.1 y hyy).kept hkf (fun _ x hx h => by have h1:=hy y hyy x hx;have h2:x.block=w.heap.size:=h;omega),fun h0 => ?_⟩
     obtain ⟨b,o,hb,hbl,hc⟩:=hnod.2.2 h0;refine ⟨b,o,hb,Nat.lt_of_lt_of_le hbl hkf.size,fun i hi j hj => ?_⟩
     rw [World.cell?_of_block (hkf.block b hbl (fun h => by have h1:=hq _ hb;have h2:b=w.heap.size:=h;simp only at h1;omega))]
     exact hc i hi j hj
end Go.Proofs.YtfhelebejclalaaDoor.Tre
end
section
namespace Go.Proofs.YtfhelebejclalaaDoor.Walk
open Go.ChangeShapes Go.WideShapes Go.ChangeAt Go.RowKit Base Byt Txt Bk Rec Block Mem Tre Lnk Go.Lib
set_option linter.unusedVariables false
set_option maxRecDepth 100000
set_option maxHeartbeats 4000000 in
theorem linksBackC (H:LinksC) (a0:Option Addr) (len0 cap0:Nat) (xs0:List NP) (a1:Option Addr) (len1 cap1:Nat) (z1:List Int) (w:World) (ma0:NodesAt w a0 len0 xs0) (lc0:len0≤cap0) (cm0:cap0≤maxLen) (by0:cap0 * 112≤140737488351232) (rm0:∀ x ∈ xs0,WfN x.m∧RoomN x)
 (w1:IsRow .u8 w a1 len1 cap1 z1) (b1:cap1 * 1≤140737488351232) (hT:Path.Tabs w) :
 Calls Tryd.prog 4 #[.slice a0 len0 cap0,.slice a1 len1 cap1] w fun e w' => e=.returned (.bool true)∧Below w.heap.size w w':=by
 obtain ⟨hbt,hbl,hb3,hb4⟩:=bat_of_row w1;obtain ⟨ts,hts⟩:∃ ts,bytesOf (z1.take len1)=ts:=⟨_,rfl⟩;rw [hts] at hbt;have HBT:=Lib.hid hbt;have h1b:len1≤140737488351232:=by omega
 clear hbt hbl hts w1 hb3 hb4 b1;have HS:=Lib.hid (light11_any a0 len0 cap0 xs0 w ma0 lc0 cm0 fun x hx => (rm0 x hx).2)
 have HAN:Hid (∀ w1,Below w.heap.size w w1 → Calls Tryd.prog 10 #[] w1 fun e w' => e=.returned (.bool true)∧Below w1.heap.size w1 w'):=Lib.hid fun w1 h => ans11_any H w1 (hT.below h)
 have HC:=Lib.hid H;have HA0:=Lib.hid ma0;have HT:=Lib.hid hT;have HL:=Lib.hid ma0.1;have HLC:=Lib.hid (And.intro lc0 cm0)
 have HRM:Hid (∀ x ∈ xs0,x.m.path.length≤140737488351232∧x.m.target.length≤140737488351232∧x.m.leader.length≤140737488351232∧x.m.body.length≤140737488351232):=Lib.hid (fun x hx => by
  have h1:=(rm0 x hx).2;have h2:=(ma0.2.1 x hx).le
  exact ⟨h1.1,h1.2.1,h1.2.2.1,by have:=h1.2.2.2;omega⟩)
 obtain ⟨s,hs⟩:∃ s,light11D (xs0.map NP.m)=s:=⟨_,rfl⟩;rw [hs] at HS;have HE:=Lib.hid hs;clear ma0 lc0 cm0 by0 rm0 hT hs H
 go_enter Tryd.func4,Tryd.ntmps4
 go_wp2_with fail
 refine HS.out.mono ?_
 rintro e w2 ⟨rfl,hb2⟩;have HB2:=Lib.hid hb2;clear HS hb2
 cases s with
 | false =>
   go_wp2_with fail
   refine (HAN.out _ HB2.out).mono ?_
   rintro e w3 ⟨rfl,hb3⟩;have FIN:=Lib.hid (HB2.out.trans (hb3.mono HB2.out.size));clear hb3
   go_wp2
   go_ret
   exact ⟨rfl,FIN.out⟩
 | true =>
   obtain ⟨hf1,_,hgood⟩:=light11D_facts HE.out;rw [List.length_map,HL.out] at hf1;have HG:=Lib.hid hgood;have HMX:=Lib.hid (mixed_any a0 len0 cap0 xs0 a1 len1 cap1 ts w2 (HA0.out.below HB2.out) hf1 (HBT.out.below HB2.out) h1b);unfold MixPost at HMX;clear hgood
   go_wp2_with fail
   refine HMX.out.mono ?_
   rintro e w3 ⟨q3,d3,os,rfl,hos,hd3,hd32,hstr,hb3⟩;have HB3:=Lib.hid (HB2.out.trans (hb3.mono HB2.out.size));have ho:OrderOf (xs0.map NP.m) os:=by unfold OrderOf;rw [← paths_is];exact hos
   have HO:=Lib.hid ho
   have HOR:Hid (∀ s ∈ os,s.length≤140737488351232):=Lib.hid (fun s hs => by
    obtain ⟨x,hx,rfl⟩:=List.mem_map.1 (hos.mem_iff.1 hs)
    exact (HRM.out x hx).1)
   have hol:os.length=len0:=hstr.1;have hm:=HC.out.members w3 a0 len0 cap0 xs0 q3 len0 d3 os ⟨HA0.out.below HB3.out,HLC.out.1,HLC.out.2,hf1,HRM.out,HG.out⟩ ⟨hstr,hd3,hd32,by omega,HOR.out⟩ (HT.out.below HB3.out)
   rw [lm_order HG.out HO.out] at hm;unfold LMemPost at hm;have HLL:Hid ((linksD (xs0.map NP.m) os).length=len0):=Lib.hid (by rw [linksD_len HO.out,hol])
   simp only [HLL.out] at hm;have HM:=Lib.hid hm;clear hos hd3 hd32 hstr hb3 ho HMX hm hol
   go_wp2_with fail
   refine HM.out.mono ?_
   rintro e w6 ⟨q6,d6,ms,rfl,hms,hmn,hd6,hd62,hb6⟩;have HB6:=Lib.hid (HB3.out.trans (hb6.mono HB3.out.size))
   have HRO:Hid (∀ x ∈ ms,x.m.path.length≤140737488351232∧x.m.target.length≤140737488351232∧x.m.body.length≤140737488351232):=Lib.hid (fun x hx => links_room HO.out (fun y hy => by
    obtain ⟨z,hz,rfl⟩:=List.mem_map.1 hy
    exact HRM.out z hz) x.m (by rw [← hms];exact List.mem_map_of_mem hx))
   have HGM:Hid (∀ x ∈ ms,x.m.path.length≤200∧x.m.target.length≤200):=Lib.hid (fun x hx => by
    have hg:=good_facts (links_good HG.out HO.out x.m (by rw [← hms];exact List.mem_map_of_mem hx))
    exact ⟨hg.pathL,hg.targL⟩)
   have hbk:=links_back HG.out HO.out;rw [← hms] at hbk;have hlt:(xs0.map NP.m).length=len0:=by rw [List.length_map];exact HL.out
   have hf:=tfold_any q6 len0 d6 ms w6 hmn (by omega) (fun y hy => by have:=HGM.out y hy;exact ⟨by omega,by omega⟩) (fun y hy => (HRO.out y hy).2.2) (HT.out.below HB6.out)
   unfold FoldPost at hf;rw [hbk] at hf;simp only [hlt] at hf;have HFO:=Lib.hid hf;clear hms hmn hd6 hd62 hb6 hbk hlt hf HM
   go_wp2_with fail
   refine HFO.out.mono ?_
   rintro e w7 ⟨q7,d7,us,rfl,hu,hnou,_,_,hb7,_,_⟩
   go_upto_region 5 with fail
   obtain ⟨W7,hW7⟩:∃ W7,w7.alloc (.cells #[.int .i64 0,.int .i64 0] 38)=W7:=⟨_,rfl⟩;have h77:Below w7.heap.size w7 W7:=by rw [← hW7];exact (Below.refl _ _).alloc (Nat.le_refl _) _
   have HX7:Hid (Blk W7 w7.heap.size 38 #[.int .i64 0,.int .i64 0]):=Lib.hid (by rw [← hW7];exact Blk.new w7 _ _)
   have hb67:=hb7.trans (h77.mono hb7.size);have HB7:=Lib.hid (HB6.out.trans (hb67.mono HB6.out.size));have HU7:=Lib.hid (And.intro hu (hnou.below h77));rw [hW7];clear hu hnou hb7 h77 hb67 hW7 HFO
   go_wp2_with fail
   refine (HAN.out _ HB7.out).mono ?_
   rintro e w8 ⟨rfl,hb8⟩;have HB8:=Lib.hid (HB7.out.trans (hb8.mono HB7.out.size));have x0:=(HX7.out.below hb8 HX7.out.lt).cell 0;simp only [List.getElem?_toArray,List.getElem?_cons_zero] at x0;have hsm:=rsameT_any a0 q7 len0 len0 cap0 d7 xs0 us w8 (Nat.le_trans HLC.out.1 HLC.out.2) (HA0.out.below HB8.out) (HU7.out.2.below hb8);rw [decide_eq_true HU7.out.1.symm] at hsm;have HSM:=Lib.hid hsm;clear hb8 hsm
   go_wp2_with fail
   refine HSM.out.mono ?_
   rintro e w9 ⟨rfl,hb9⟩;have FIN:=Lib.hid (HB8.out.trans (hb9.mono HB8.out.size));clear hb9 x0
   go_wp2
   go_ret
   exact ⟨rfl,FIN.out⟩
end Go.Proofs.YtfhelebejclalaaDoor.Walk
end
section
namespace Go.Proofs.YtfhelebejclalaaDoor.Walk
open Go.ChangeShapes Go.WideShapes Go.ChangeAt Go.RowKit Base Byt Txt Bk Rec Block Mem Tre Lnk Go.Lib
set_option linter.unusedVariables false
theorem linksBack (a0:Option Addr) (len0 cap0:Nat) (xs0:List NP) (a1:Option Addr) (len1 cap1:Nat) (z1:List Int) (w:World) (ma0:NodesAt w a0 len0 xs0) (lc0:len0≤cap0) (cm0:cap0≤maxLen) (by0:cap0 * 112≤140737488351232) (rm0:∀ x ∈ xs0,WfN x.m∧RoomN x)
 (w1:IsRow .u8 w a1 len1 cap1 z1) (b1:cap1 * 1≤140737488351232) (hT:Path.Tabs w) :
 Calls Tryd.prog 4 #[.slice a0 len0 cap0,.slice a1 len1 cap1] w fun e w' => e=.returned (.bool true)∧Below w.heap.size w w':=linksBackC linksC a0 len0 cap0 xs0 a1 len1 cap1 z1 w ma0 lc0 cm0 by0 rm0 w1 b1 hT
end Go.Proofs.YtfhelebejclalaaDoor.Walk
end
