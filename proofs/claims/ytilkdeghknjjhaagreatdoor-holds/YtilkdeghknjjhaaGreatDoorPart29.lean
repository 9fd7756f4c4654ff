/- A part of the proof. -/
import Derived.Lib.AtoiAllCases
import Derived.Lib.ItoaMem
import Derived.Test.YtilkdeghknjjhaaGreatDoorPart02
import Derived.Test.YtilkdeghknjjhaaGreatDoorPart24
import Derived.Lib.SmallJoins
import Derived.Lib.AppendIntMem
import Derived.Test.YtilkdeghknjjhaaGreatDoorPart28
import Derived.Orders
import Derived.Tactics
set_option maxRecDepth 20000
set_option maxHeartbeats 3200000
set_option linter.unusedVariables false
namespace Go.Proofs.YtilkdeghknjjhaaGreatDoor
open Go
theorem parse_app : ∀ (l r : List UInt8) (acc : Nat),Lib.parseUint10 acc (l ++ r) = match Lib.parseUint10 acc l with | .ok a=>Lib.parseUint10 a r | .«syntax»=>.«syntax» | .range=>.range
 | [],r,acc=>rfl
 | c :: l,r,acc=>by
  rw [List.cons_append,Lib.parseUint10,Lib.parseUint10]
  split
  ·split
   ·rfl
   ·split
    ·rfl
    ·exact parse_app l r _
  ·rfl
theorem digit_toNat {d : Nat} (h : d < 10) : (UInt8.ofNat (48 + d)).toNat = 48 + d:=by
 simp [UInt8.toNat_ofNat'];omega
theorem parse_dec (u : Nat) (h : u < 18446744073709551616) : Lib.parseUint10 0 (Lib.decDigits u) = .ok u:=by
 induction u using Nat.strongRecOn with
 | _ u ih =>
  by_cases h10 : u < 10
  ·rw [Lib.decDigits,dif_pos h10,Lib.parseUint10,digit_toNat h10,if_pos (by omega),if_neg (by omega),if_neg (by omega)]
   simp [Lib.parseUint10]
  ·rw [Lib.decDigits,dif_neg h10,parse_app,ih (u / 10) (by omega) (by omega)]
   simp only
   rw [Lib.parseUint10,digit_toNat (by omega),if_pos (by omega),if_neg (by omega),if_neg (by omega)]
   simp [Lib.parseUint10]
   omega
theorem dec_head (u : Nat) : ∃ c r,Lib.decDigits u = c :: r/\48<=c.toNat/\c.toNat<=57:=by
 induction u using Nat.strongRecOn with
 | _ u ih =>
  by_cases h10 : u < 10
  ·exact ⟨_,[],by rw [Lib.decDigits,dif_pos h10],by rw [digit_toNat h10];omega,by rw [digit_toNat h10];omega⟩
  ·obtain ⟨c,r,h1,h2,h3⟩:=ih (u / 10) (by omega)
   exact ⟨c,r ++ [UInt8.ofNat (48 + u % 10)],by rw [Lib.decDigits,dif_neg h10,h1];rfl,h2,h3⟩
theorem dec_ne (u : Nat) : Lib.decDigits u ≠ []:=by obtain ⟨c,r,h,_⟩:=dec_head u;rw [h];simp
theorem atoi_itoa (n : Nat) (h : n < 9223372036854775808) : Lib.atoiAll (Lib.itoa n) = .ok n:=by
 rw [Lib.itoa_nonneg]
 obtain ⟨c,r,h1,h2,h3⟩:=dec_head n
 have hp : Lib.parseMag (c :: r) = .ok n:=by
  rw [<- h1]
  unfold Lib.parseMag
  rw [if_neg (dec_ne n)]
  exact parse_dec n (by omega)
 rw [h1]
 unfold Lib.atoiAll
 simp only
 rw [if_neg (by omega),hp]
 simp only
 rw [if_neg (by omega),if_neg (by omega),if_neg (by omega)]
theorem itoa_inj {n m : Nat} (hn : n < 9223372036854775808) (hm : m < 9223372036854775808) (h : Lib.itoa n = Lib.itoa m) : n = m:=by
 have a:=atoi_itoa n hn
 rw [h,atoi_itoa m hm] at a
 injection a with a
 omega
theorem nDigits_le : ∀ (k u : Nat),u < 10 ^ (k + 1)->Lib.nDigits u<=k + 1
 | 0,u,h=>by rw [Lib.nDigits_small (by simpa using h)];exact Nat.le_refl _
 | k + 1,u,h=>by
  by_cases h10 : u < 10
  ·rw [Lib.nDigits_small h10];omega
  ·rw [Lib.nDigits_big h10]
   have:=nDigits_le k (u / 10) (by rw [Nat.pow_succ] at h;omega)
   omega
theorem itoa_len (n : Nat) (h : n < 10000000000000000000) : (Lib.itoa n).length<=19:=by
 rw [Lib.itoa_nonneg,Lib.decDigits_length]
 exact nDigits_le 18 n (by omega)
theorem dec_digits (u : Nat) : ∀ c ∈ Lib.decDigits u,48<=c.toNat/\c.toNat<=57:=by
 induction u using Nat.strongRecOn with
 | _ u ih =>
  by_cases h10 : u < 10
  ·rw [Lib.decDigits,dif_pos h10]
   intro c hc
   rw [List.mem_singleton.1 hc,digit_toNat h10];omega
  ·rw [Lib.decDigits,dif_neg h10]
   intro c hc
   rcases List.mem_append.1 hc with hc | hc
   ·exact ih (u / 10) (by omega) c hc
   ·rw [List.mem_singleton.1 hc,digit_toNat (by omega)];omega
end Go.Proofs.YtilkdeghknjjhaaGreatDoor
namespace Go.Proofs.YtilkdeghknjjhaaGreatDoor
open Go.RowKit
variable {w w' : World}
structure Vars (w : World) : Prop where
 tab : Lib.TabIs Tryz.prog w "internal/strconv.uint64pow10" .u64 Lib.pow10Tab
 e3 : ∃ ev,w.cell? ⟨3,0,none⟩ = some ev/\(ev = .nilIface\/∃ te pe,ev = .iface te pe)
 e4 : ∃ ev,w.cell? ⟨4,0,none⟩ = some ev/\(ev = .nilIface\/∃ te pe,ev = .iface te pe)
theorem gtab : Tryz.prog.globalNamed "internal/strconv.uint64pow10" = some 0 := by kernel_rfl
theorem Vars.of (h : Vars w) (hk : ∀ k,k < 5->w'.heap[k]? = w.heap[k]?) : Vars w':=by
 obtain ⟨h1,⟨e3,a3,b3⟩,⟨e4,a4,b4⟩⟩:=h
 refine ⟨?_,⟨e3,(World.cell?_of_block (hk 3 (by omega))).trans a3,b3⟩,⟨e4,(World.cell?_of_block (hk 4 (by omega))).trans a4,b4⟩⟩
 unfold Lib.TabIs World.var? at h1 ⊢
 rw [gtab] at h1 ⊢
 simp only [Option.bind_some] at h1 ⊢
 rw [hk 0 (by omega)]
 exact h1
theorem Vars.five (h : Vars w) : 5<=w.heap.size:=by
 obtain ⟨e4,a4,b4⟩:=h.e4
 have:=World.block_lt_of_cell? w _ a4
 exact this
theorem Vars.below (h : Vars w) (b : Below w.heap.size w w') : Vars w':=h.of fun k hk=>b.block k (by have:=h.five;omega)
theorem Vars.tr {Z : Nat->Prop} (h : Vars w) (t : Tr Z w w') (hz : ∀ k,k < 5->¬ Z k) : Vars w':=h.of fun k hk=>t.block k (by have:=h.five;omega) (hz k hk)
theorem Itoa_any (n : Nat) (w : World) (hn : n < 9223372036854775808) (hv : Vars w) :
  Calls Tryz.prog 26 #[.int .i64 n] w fun e w'=>e = .returned (.string (ba (Lib.itoa n)))/\Below w.heap.size w w' :=
 (Tryz.strconv_Itoa n (by omega) (by omega) w hv.tab).mono fun e w' ⟨he,k,os,hw⟩=>⟨he,by rw [hw];exact Lib.below_grow _ w (Nat.le_refl _) k os⟩
theorem Atoi_any (s : ByteArray) (w : World) (hs : s.size<=1000000000) (hv : Vars w) :
  Calls Tryz.prog 197 #[.string s] w fun e w'=>∃ er,e = .returned (.tuple #[.int .i64 (atoiV (bs s)),er])/\Below w.heap.size w w'/\(if atoiOK (bs s) = true then er = .nilIface else ∃ t p,er = .iface t p):=by
 obtain ⟨h1,⟨e3,a3,b3⟩,⟨e4,a4,b4⟩⟩:=hv
 cases h : Lib.atoiAll s.data.toList with
 | ok v =>
  refine (Tryz.strconv_Atoi_ok s (by omega) v h w).mono fun e w' ⟨he,hw⟩=>⟨.nilIface,?_,?_,?_⟩
  ·rw [he];unfold atoiV bs;rw [h]
  ·rcases hw with rfl | ⟨t,rfl⟩
   ·exact Below.refl _ _
   ·exact Lib.bytesWorld_below w 5 t
  ·unfold atoiOK bs;rw [h];rfl
 | «syntax» =>
  refine (Tryz.strconv_Atoi_syntax s (by omega) h e3 w a3 b3).mono fun e w' ⟨N,he,_,_,hb⟩=>⟨.iface 302 (.pointer (some ⟨N,0,none⟩)),?_,hb,?_⟩
  ·rw [he];unfold atoiV bs;rw [h]
  ·unfold atoiOK bs;rw [h];exact ⟨_,_,rfl⟩
 | range =>
  refine (Tryz.strconv_Atoi_range s (by omega) h e4 w a4 b4).mono fun e w' ⟨N,he,_,_,hb⟩=>⟨.iface 302 (.pointer (some ⟨N,0,none⟩)),?_,hb,?_⟩
  ·rw [he];unfold atoiV bs;rw [h]
  ·unfold atoiOK bs;rw [h];exact ⟨_,_,rfl⟩
theorem Clone_any (s : ByteArray) (w : World) (hs : s.size<=1000000000) :
  Calls Tryz.prog 90 #[.string s] w fun e w'=>e = .returned (.string s)/\Below w.heap.size w w':=by
 go_enter Tryz.func90,Tryz.ntmps90
 go_wp2_with fail
 refine (Tryz.stringslite_Clone s w (by omega)).mono ?_
 rintro e w' ⟨rfl,hb⟩
 go_wp2
 go_ret
 exact ⟨rfl,hb⟩
theorem itoa_size {n : Nat} (hn : n < 9223372036854775808) : (ba (Lib.itoa n)).size<=19:=by
 have h1:=itoa_len n (by omega)
 have : (ba (Lib.itoa n)).size = (Lib.itoa n).length:=by simp [ba,ByteArray.size]
 omega
def fnm (n : Nat) : ByteArray:=(⟨#[100,97,116,97,46]⟩ : ByteArray) ++ ba (Lib.itoa n)
theorem fileName_any (n : Nat) (w : World) (hn : n < 9223372036854775808) (hv : Vars w) :
  Calls Tryz.prog 125 #[.int .i64 n] w fun e w'=>e = .returned (.string (fnm n))/\Below w.heap.size w w':=by
 have hI:=Itoa_any n w hn hv
 have hl:=itoa_size hn
 obtain ⟨s,hs⟩ : ∃ s,ba (Lib.itoa n) = s:=⟨_,rfl⟩
 have HF : Hid (fnm n = (⟨#[100,97,116,97,46]⟩ : ByteArray) ++ s):=by rw [<- hs];rfl
 rw [hs] at hI hl
 have hadd : ¬ 9223372036854775807 < 5 + s.size:=by omega
 clear hs
 go_enter Tryz.func125,Tryz.ntmps125
 go_wp2_with fail
 refine hI.mono ?_
 rintro e w' ⟨rfl,hb⟩
 go_wp2
 go_ret
 exact ⟨by rw [HF.out];rfl,hb⟩
end Go.Proofs.YtilkdeghknjjhaaGreatDoor
namespace Go.Proofs.YtilkdeghknjjhaaGreatDoor
open Go.RowKit M
variable {X w1 a : World}
theorem rowD {c : Array Value} {t : TypeId} (hb : Below (X.alloc (.cells c t)).drew.heap.size (X.alloc (.cells c t)).drew w1) : w1.heap[X.heap.size]? = some (.cells c t (0,0)):=heap_later hb (heap_alloc_new X _)
theorem belowN (h : Below a.heap.size a X) (hb : Below X.heap.size X w1) : Below a.heap.size a w1:=h.trans (hb.mono h.size)
theorem belowA {o : Obj} (h : Below a.heap.size a X) : Below a.heap.size a (X.alloc o):=h.alloc h.size o
end Go.Proofs.YtilkdeghknjjhaaGreatDoor
namespace Go.Proofs.YtilkdeghknjjhaaGreatDoor
open Go.RowKit M
variable {w w' : World} {j d k : Nat} {Z : Nat->Prop} {D : Dk}
structure Jn where
 roll : Nat
 num : Nat
 size : Nat
 cut : Bool
def JAt (w : World) (j d : Nat) (J : Jn) : Prop:=w.heap[j]? = some (.cells #[.pointer (some ⟨d,0,none⟩),.int .i64 J.roll,.int .i64 J.num,.int .i64 J.size,.bool J.cut] 199 (0,0))
theorem JAt.cell {J : Jn} (h : JAt w j d J) (o : Nat) : w.cell? ⟨j,o,none⟩ = #[Value.pointer (some ⟨d,0,none⟩),.int .i64 J.roll,.int .i64 J.num,.int .i64 J.size,.bool J.cut][o]?:=by
 unfold JAt at h;simp [World.cell?,h]
theorem JAt.frozen {J : Jn} (h : JAt w j d J) (o : Nat) : w.frozen? ⟨j,o,none⟩ = false:=frozen_of_row _ _ _ _ _ h
theorem JAt.below {J : Jn} (h : JAt w j d J) (b : Below w.heap.size w w') : JAt w' j d J:=heap_later b h
theorem JAt.tr {Y : Nat->Prop} {J : Jn} (h : JAt w j d J) (b : Tr Y w w') (hz : ¬ Y j) : JAt w' j d J:=b.heap h hz
def Zj (Z : Nat->Prop) (j : Nat) : Nat->Prop:=fun k=>Z k\/k = j
theorem Tr.zj (h : Tr Z w w') (j : Nat) : Tr (Zj Z j) w w':=h.mono fun k _ hz=>.inl hz
theorem Tr.setJ {a : World} (h : Tr (Zj Z j) a w) (o : Nat) (u : Value) : Tr (Zj Z j) a (w.setCell ⟨j,o,none⟩ u):=h.setCell (p:=⟨j,o,none⟩) (show Zj Z j j from .inr rfl) u
theorem DiskAt.setJ {p : Nat} (h : DiskAt Z w p D) (hj : ¬ Z j) (o : Nat) (u : Value) : DiskAt Z (w.setCell ⟨j,o,none⟩ u) p D :=
 h.tr (Y:=One j) ((Tr.refl (One j) w).set1 o u) (fun k hk (e : k = j)=>hj (e ▸ hk))
structure Side (Z : Nat->Prop) (w : World) (j d : Nat) (D : Dk) (J : Jn) : Prop where
 dk : DiskAt Z w d D
 jn : JAt w j d J
 vs : Vars w
structure Apart (Z : Nat->Prop) (j : Nat) : Prop where
 z : ¬ Z j
 v : ∀ k,k < 5->¬ Z k
 j5 : 5<=j
theorem Side.below {J : Jn} (h : Side Z w j d D J) (b : Below w.heap.size w w') : Side Z w' j d D J:=⟨h.dk.below b,h.jn.below b,h.vs.below b⟩
theorem Side.disk {D' : Dk} {J : Jn} (h : Side Z w j d D J) (ha : Apart Z j) (t : Tr Z w w') (hd : DiskAt Z w' d D') : Side Z w' j d D' J:=⟨hd,h.jn.tr t ha.z,h.vs.tr t ha.v⟩
theorem Side.set {J J' : Jn} (h : Side Z w j d D J) (ha : Apart Z j) (o : Nat) (u : Value) (hj : JAt (w.setCell ⟨j,o,none⟩ u) j d J') : Side Z (w.setCell ⟨j,o,none⟩ u) j d D J' :=
 ⟨h.dk.setJ ha.z o u,hj,h.vs.tr ((Tr.refl (One j) w).set1 o u) (fun k hk (e : k = j)=>by have:=ha.j5;omega)⟩
theorem JAt.setNum {J : Jn} (h : JAt w j d J) (n : Nat) : JAt (w.setCell ⟨j,2,none⟩ (.int .i64 n)) j d { J with num:=n }:=heap_setCell_self h 2 _
theorem JAt.setSize {J : Jn} (h : JAt w j d J) (n : Nat) : JAt (w.setCell ⟨j,3,none⟩ (.int .i64 n)) j d { J with size:=n }:=heap_setCell_self h 3 _
theorem JAt.setCut {J : Jn} (h : JAt w j d J) (b : Bool) : JAt (w.setCell ⟨j,4,none⟩ (.bool b)) j d { J with cut:=b }:=heap_setCell_self h 4 _
def jsl (D : Dk) (J : Jn) : Bool × Dk:=if J.num = 0 then (true,D) else (D.syncs (fnm J.num),D.sync (fnm J.num))
theorem jsl_wf (h : D.WF) (k : Nat) (hb : D.Bud (k + 1)) (J : Jn) : (jsl D J).2.WF:=by
 unfold jsl;split
 ·exact h
 ·exact h.sync hb.lt _
theorem jsl_bud (hb : D.Bud (k + 1)) (J : Jn) : (jsl D J).2.Bud k:=by
 unfold jsl;split
 ·exact hb.mono (by omega)
 ·exact hb.sync _
theorem syncLast_any (Z : Nat->Prop) (j d : Nat) (D : Dk) (J : Jn) (w : World) (h : Side Z w j d D J) (ha : Apart Z j) (hwf : D.WF) (hn : J.num < 1000000000) :
  Calls Tryz.prog 117 #[.pointer (some ⟨j,0,none⟩)] w fun e w'=>e = .returned (.bool (jsl D J).1)/\Side Z w' j d (jsl D J).2 J/\Tr Z w w':=by
 have c0 : w.cell? ⟨j,0,none⟩ = some (.pointer (some ⟨d,0,none⟩)):=(h.jn.cell 0).trans rfl
 have c2 : w.cell? ⟨j,2,none⟩ = some (.int .i64 J.num):=(h.jn.cell 2).trans rfl
 by_cases h0 : J.num = 0
 ·have HE : Hid (jsl D J = (true,D)):=if_pos h0
  have hb : ((J.num : Int) == 0) = true:=by simp [h0]
  clear h0
  go_enter Tryz.func117,Tryz.ntmps117
  go_upto_region 1 with (fail)
  go_quiet (fail)
  go_wp2
  go_ret
  exact ⟨by rw [HE.out];rfl,by rw [HE.out];exact h.below (below_drewN (Below.refl _ _) _),(Tr.refl Z w).drewN _⟩
 ·have HE : Hid (jsl D J = (D.syncs (fnm J.num),D.sync (fnm J.num))):=if_neg h0
  have hb : ((J.num : Int) == 0) = false:=by simp [h0]
  have HF : Hid (∀ w1,Below w.heap.size w w1->Calls Tryz.prog 125 #[.int .i64 J.num] w1 fun e w'=>e = .returned (.string (fnm J.num))/\Below w1.heap.size w1 w'):=fun w1 h1=>fileName_any J.num w1 (by omega) (h.vs.below h1)
  have HS : Hid (∀ w1,Below w.heap.size w w1->Calls Tryz.prog 176 #[.pointer (some ⟨d,0,none⟩),.string (fnm J.num)] w1 fun e w'=>e = .returned (.bool (D.syncs (fnm J.num)))/\DiskAt Z w' d (D.sync (fnm J.num))/\Tr Z w1 w'):=fun w1 h1=>Sync_any Z d D _ w1 (h.dk.below h1) hwf.ok
  have HEnd : Hid (∀ w1 w2,Below w.heap.size w w1->Tr Z w1 w2->DiskAt Z w2 d (D.sync (fnm J.num))->Side Z w2 j d (D.sync (fnm J.num)) J/\Tr Z w w2):=fun w1 w2 h1 h2 h3=>⟨(h.below h1).disk ha h2 h3,(below_tr h1 Z).trans h2⟩
  have hzj:=ha.z
  obtain ⟨n,hnn⟩ : ∃ n,fnm J.num = n:=⟨_,rfl⟩
  rw [hnn] at HE HF HS HEnd
  have hw0 : Below w.heap.size w w:=Below.refl _ _
  clear hnn h0 h ha hn hwf
  go_enter Tryz.func117,Tryz.ntmps117
  go_upto_region 1 with (fail)
  go_region_held3 (fun w'=>w'.cell? ⟨j,0,none⟩ = some (.pointer (some ⟨d,0,none⟩))/\w'.cell? ⟨j,2,none⟩ = some (.int .i64 J.num))
   (first | exact ⟨c0,c2⟩ | exact ⟨by assumption,by assumption⟩)
   (first
    | ((go_at_call 125;refine (HF.out _ (Below.drew hw0)).mono ?_;rintro e w1 ⟨rfl,hb1⟩;have B1:=belowN (Below.drew hw0) hb1;have f0:=cell_later B1 c0;have f2:=cell_later B1 c2))
    | ((go_at_call 176;refine (HS.out _ B1).mono ?_;rintro e w2 ⟨rfl,h2,t2⟩;have g0:=cell_tr t2 f0 hzj;have g2:=cell_tr t2 f2 hzj)))
  go_wp2
  go_ret
  obtain ⟨h3,h4⟩:=HEnd.out _ _ B1 t2 h2
  exact ⟨by rw [HE.out];rfl,by rw [HE.out];exact h3,h4⟩
def jsync (D : Dk) (J : Jn) : Bool × Dk:=if (jsl D J).1 = true then ((jsl D J).2.may,(jsl D J).2.syncDir) else (false,(jsl D J).2)
theorem jsync_wf (h : D.WF) (k : Nat) (hb : D.Bud (k + 2)) (J : Jn) : (jsync D J).2.WF:=by
 have h1:=jsl_wf h _ hb J
 unfold jsync;split
 ·exact h1.syncDir (jsl_bud hb J).lt
 ·exact h1
theorem jsync_bud (hb : D.Bud (k + 2)) (J : Jn) : (jsync D J).2.Bud k:=by
 unfold jsync;split
 ·exact (jsl_bud hb J).syncDir
 ·exact (jsl_bud hb J).mono (by omega)
theorem jSync_any (Z : Nat->Prop) (j d : Nat) (D : Dk) (J : Jn) (w : World) (h : Side Z w j d D J) (ha : Apart Z j) (hwf : D.WF) (hbu : D.Bud 2) (hn : J.num < 1000000000) :
  Calls Tryz.prog 69 #[.pointer (some ⟨j,0,none⟩)] w fun e w'=>e = .returned (.bool (jsync D J).1)/\Side Z w' j d (jsync D J).2 J/\Tr Z w w':=by
 have HL:=syncLast_any Z j d D J w h ha hwf hn
 have hw1:=jsl_wf hwf _ hbu J
 have HD : Hid (∀ w1,Side Z w1 j d (jsl D J).2 J->Calls Tryz.prog 118 #[.pointer (some ⟨d,0,none⟩)] w1 fun e w'=>e = .returned (.bool (jsl D J).2.may)/\DiskAt Z w' d (jsl D J).2.syncDir/\Tr Z w1 w'):=fun w1 h1=>SyncDir_any Z d _ w1 h1.dk hw1.ok
 have HJ : Hid (jsync D J = if (jsl D J).1 = true then ((jsl D J).2.may,(jsl D J).2.syncDir) else (false,(jsl D J).2)):=rfl
 obtain ⟨q,hq⟩ : ∃ q,jsl D J = q:=⟨_,rfl⟩
 rw [hq] at HL HD HJ
 clear hq hw1 hwf hbu hn h
 obtain ⟨b,D1⟩:=q
 go_enter Tryz.func69,Tryz.ntmps69
 go_wp2_with fail
 refine HL.mono ?_
 rintro e w1 ⟨rfl,h1,t1⟩
 have c0 : w1.cell? ⟨j,0,none⟩ = some (.pointer (some ⟨d,0,none⟩)):=(h1.jn.cell 0).trans rfl
 simp only at HJ h1 ⊢
 cases b
 ·have HJ2 : Hid (jsync D J = (false,D1)):=HJ
  clear HJ HD
  go_wp2
  go_ret
  exact ⟨by rw [HJ2.out];rfl,by rw [HJ2.out];exact h1,t1⟩
 ·have HJ2 : Hid (jsync D J = (D1.may,D1.syncDir)):=HJ
  clear HJ
  go_wp2_with fail
  refine (HD.out w1 h1).mono ?_
  rintro e w2 ⟨rfl,h2,t2⟩
  go_wp2
  go_ret
  exact ⟨by rw [HJ2.out];rfl,by rw [HJ2.out];exact h1.disk ha t2 h2,t1.trans t2⟩
end Go.Proofs.YtilkdeghknjjhaaGreatDoor
namespace Go.Proofs.YtilkdeghknjjhaaGreatDoor
open Go
def gives (P : Program) (K : Value->World->Prop) : Result Next->Prop
 | .ok (.value v) w'=>K v w'
 | .ok .skip w'=>K undef w'
 | .ok (.enter f args) w'=>Calls P f args w' (fun e w''=>∃ v,e = .returned v/\K v w'')
 | _=>False
theorem wp_of_gives {P : Program} {o : Oper} {a : Act} {w : World} {next : Act->World->Prop} {Q : Exit->Act->World->Prop} {K : Value->World->Prop}
  (h : gives P K ((execOp a.eval o).run P w)) (hK : ∀ v w',K v w'->next (a.put o.dst v) w') : o.wp P a w next Q:=by
 unfold Oper.wp
 generalize (execOp a.eval o).run P w = r at h
 cases r with
 | ok n w' =>
  cases n <;> simp only [gives] at h <;> simp only [Oper.upon]
  case value v=>exact hK _ _ h
  case skip=>exact hK _ _ h
  case enter f args=>exact h.mono fun e w'' ⟨v,he,hv⟩=>by subst he;exact hK _ _ hv
 | halt x w'=>simp only [gives] at h
def reads (o : Oper) : List Nat:=o.op.operands.toList.filterMap fun | .tmp t=>some t | _=>none
def dsts (ops : Array Oper) : List Nat:=ops.toList.filterMap (·.dst)
def isSelect (o : Oper) : Bool:=match o.op with | .select _ _=>true | _=>false
def waits (ops : Array Oper) (o : Oper) : Bool:=(reads o).all fun t=>(o.after.toList.any fun e=>Region.binds .any e && ((ops[e.on]?).bind (·.dst) == some t)) || !(dsts ops).contains t
def guarded (loose : List Nat) (ops : Array Oper) (o : Oper) : Bool:=match o.guard with
 | none=>true
 | some (g,_)=>(o.after.toList.any fun e=>Region.binds .any e && e.on == g) && match (ops[g]?).bind (·.dst) with | some d=>!loose.contains d | none=>false
def flowB (n : Nat) (loose : List Nat) (ops : Array Oper) : Bool :=
 decide (dsts ops).Nodup && (dsts ops).all (· < n) && ops.all (fun o=>guarded loose ops o && !isSelect o && waits ops o) && (List.range ops.size).all fun i=>(ops[i]?).all fun o=>o.after.all fun e=>decide (e.on < i)
variable {P : Program} {ops : Array Oper} {Q : Exit->Act->World->Prop}
def lst (listed : Array Bool) : Nat->Bool:=fun i=>listed.getD i false
def andI (L : Nat->Bool) (i : Nat) : Nat->Bool:=fun j=>if j = i then true else L j
theorem lst_set {listed : Array Bool} {i : Nat} (h : i < listed.size) : lst (listed.setIfInBounds i true) = andI (lst listed) i:=by
 funext j
 unfold lst andI
 by_cases e : j = i
 ·subst e
  rw [if_pos rfl,Array.getD_eq_getD_getElem?,Array.getElem?_setIfInBounds_self_of_lt h];rfl
 ·rw [if_neg e,Array.getD_eq_getD_getElem?,Array.getElem?_setIfInBounds_ne (Ne.symm e),<- Array.getD_eq_getD_getElem?]
def anc (ops : Array Oper) : Nat->Nat->Nat->Bool
 | 0,_,_=>false
 | f + 1,i,j=>match ops[i]? with
  | none=>false
  | some o=>o.after.toList.any fun e=>Region.binds .any e && (e.on == j || anc ops f e.on j)
theorem anc_of {L : Nat->Bool} (hcl : ∀ (k : Nat) (o : Oper),ops[k]? = some o->L k = true->∀ e ∈ o.after,Region.binds .any e = true->L e.on = true) :
  ∀ (f i j : Nat) (o : Oper),ops[i]? = some o->(∀ e ∈ o.after,Region.binds .any e = true->L e.on = true)->anc ops f i j = true->L j = true
 | 0,_,_,_,_,_,h=>by simp [anc] at h
 | f + 1,i,j,o,hi,hd,h=>by
  unfold anc at h
  rw [hi] at h
  simp only [List.any_eq_true,Bool.and_eq_true,Bool.or_eq_true,beq_iff_eq] at h
  obtain ⟨e,he0,hb,h⟩:=h
  have he : e ∈ o.after:=by simpa using he0
  have hL:=hd e he hb
  rcases h with h | h
  ·rw [<- h];exact hL
  ·cases ho : ops[e.on]? with
   | none=>cases f with
    | zero=>simp [anc] at h
    | succ f=>unfold anc at h;rw [ho] at h;cases h
   | some oe=>exact anc_of hcl f e.on j oe ho (hcl e.on oe ho hL) h
structure Inv (ops : Array Oper) (loose : List Nat) (T : (Nat->Value)->Array Value) (n : Nat) (df : List Deferred) (C : (Nat->Bool)->World->Prop) (Row : Nat->Value->World->Prop) (listed : Array Bool) (a : Act) (w : World) : Prop where
 c : C (lst listed) w
 d : a.defers = df
 s : a.tmps.size = n
 ls : listed.size = ops.size
 cl : ∀ (k : Nat) (o : Oper),ops[k]? = some o->lst listed k = true->∀ e ∈ o.after,Region.binds .any e = true->lst listed e.on = true
 ex : ∃ u : Nat->Value,(∀ k,(k ∉ dsts ops\/∃ (i : Nat) (o : Oper),ops[i]? = some o/\o.dst = some k/\listed.getD i false = true)->a.tmps.getD k undef = (T u).getD k undef) /\
  (∀ k ∈ loose,(∃ (i : Nat) (o : Oper),ops[i]? = some o/\o.dst = some k/\listed.getD i false = true)->Row k (u k) w)
theorem wp_region_flow {id : Nat} {a0 : Act} {w0 : World} (n : Nat) (loose : List Nat) (T : (Nat->Value)->Array Value) (C : (Nat->Bool)->World->Prop) (St : World->World->Prop) (Row : Nat->Value->World->Prop)
  (hm : P.follows .mixedOrders = true) (hB : flowB n loose ops = true) (hn : ∀ u,(T u).size = n)
  (hT1 : ∀ u k,k ∈ loose->(T u).getD k undef = u k) (hT2 : ∀ u v k,k ∉ loose->(T u).getD k undef = (T v).getD k undef) (hl : ∀ k ∈ loose,k ∈ dsts ops)
  (h0 : a0.tmps.size = n) (hk0 : ∀ u k,k ∉ dsts ops->a0.tmps.getD k undef = (T u).getD k undef)
  (hst : ∀ k v w w',St w w'->Row k v w->Row k v w') (hC : C (fun _=>false) { w0 with drawn:=w0.drawn + 1 })
  (hops : ∀ (i : Nat) (o : Oper),ops[i]? = some o->∀ L u w,L i = false->(∀ j,anc ops ops.size i j = true->L j = true)->(∀ k j,L k = true->anc ops ops.size k j = true->L j = true)->C L w->(∀ k ∈ loose,k ∈ reads o->Row k (u k) w) ->
   if Region.wanted o (yielded ops (T u)) = true then gives P (fun v w'=>C (andI L i) w'/\St w w'/\∀ d,o.dst = some d->(d ∈ loose->Row d v w')/\(d ∉ loose->v = (T u).getD d undef)) ((execOp (Act.eval ⟨T u,a0.defers⟩) o).run P w)
   else C (andI L i) w/\∀ d,o.dst = some d->d ∉ loose/\(T u).getD d undef = undef)
  (hend : ∀ L u w,(∀ i,i < ops.size->L i = true)->C L w->(∀ k ∈ loose,Row k (u k) w)->Q .normal ⟨T u,a0.defers⟩ w) : (Code.region id ops true).wp P Q a0 w0:=by
 simp only [flowB,Bool.and_eq_true,decide_eq_true_eq,List.all_eq_true] at hB
 obtain ⟨⟨⟨hnd,hlt⟩,hall⟩,hord⟩:=hB
 have hall' : ∀ (i : Nat) (o : Oper),ops[i]? = some o->guarded loose ops o = true/\isSelect o = false/\waits ops o = true:=fun i o hi=>by
  have hm : o ∈ ops:=Array.mem_of_getElem? hi
  have:=Array.all_eq_true_iff_forall_mem.1 hall o hm
  simp only [Bool.and_eq_true,Bool.not_eq_true'] at this
  exact ⟨this.1.1,this.1.2,this.2⟩
 have hback : ∀ (i : Nat) (o : Oper),ops[i]? = some o->∀ e ∈ o.after,e.on < i:=fun i o hi e he=>by
  have h1:=hord i (List.mem_range.2 (Array.getElem?_eq_some_iff.1 hi).1)
  rw [hi] at h1
  simp only [Option.all_some] at h1
  have:=Array.all_eq_true_iff_forall_mem.1 h1 e he
  simpa using this
 have hfill : ∀ k ∈ dsts ops,∃ (i : Nat) (o : Oper),ops[i]? = some o/\o.dst = some k:=fun k hk=>by
  obtain ⟨o,ho,hd⟩:=List.mem_filterMap.1 hk
  obtain ⟨i,hi,rfl⟩:=List.getElem_of_mem ho
  exact ⟨i,_,by simp,hd⟩
 have huniq : ∀ (i j : Nat) (oi oj : Oper) (k : Nat),ops[i]? = some oi->ops[j]? = some oj->oi.dst = some k->oj.dst = some k->i = j:=by
  intro i j oi oj k hi hj hdi hdj
  have key : ∀ (l : List Oper),(l.filterMap (fun (o : Oper)=>o.dst)).Nodup->∀ (i j : Nat) (oi oj : Oper),l[i]? = some oi->l[j]? = some oj->oi.dst = some k->oj.dst = some k->i < j->False:=by
   intro l
   induction l with
   | nil=>intro _ i j oi oj h;simp at h
   | cons x r ih =>
    intro hn i j oi oj h1 h2 d1 d2 hij
    have hn' : (r.filterMap (fun (o : Oper)=>o.dst)).Nodup:=by
     cases hx : x.dst with
     | none=>rw [List.filterMap_cons_none hx] at hn;exact hn
     | some d=>rw [List.filterMap_cons_some hx] at hn;exact (List.nodup_cons.1 hn).2
    cases j with
    | zero=>omega
    | succ j =>
     simp only [List.getElem?_cons_succ] at h2
     cases i with
     | zero =>
      simp only [List.getElem?_cons_zero,Option.some.injEq] at h1
      subst h1
      rw [List.filterMap_cons_some d1] at hn
      exact (List.nodup_cons.1 hn).1 (List.mem_filterMap.2 ⟨oj,List.mem_of_getElem? h2,d2⟩)
     | succ i=>exact ih hn' i j oi oj (by simpa using h1) h2 d1 d2 (by omega)
  rcases Nat.lt_trichotomy i j with h | h | h
  ·exact (key ops.toList hnd i j oi oj (by simpa using hi) (by simpa using hj) hdi hdj h).elim
  ·exact h
  ·exact (key ops.toList hnd j i oj oi (by simpa using hj) (by simpa using hi) hdj hdi h).elim
 -- when none may come up,all have
 have hdone : ∀ listed : Array Bool,listed.size = ops.size->Region.ready .any ops listed = []->∀ i,i < ops.size->listed.getD i false = true:=by
  intro listed hls hr i
  induction i using Nat.strongRecOn with
  | _ i ih =>
   intro hi
   cases hli : listed.getD i false with
   | true=>rfl
   | false =>
    exfalso
    have hsz : i < listed.size:=by omega
    have hm : i ∈ Region.ready .any ops listed:=by
     rw [mem_ready]
     refine ⟨by simpa [Array.getD,hsz] using hli,ops[i],by simp [hi],fun e he hb=>?_⟩
     have hlt':=hback i ops[i] (by simp [hi]) e he
     exact ih e.on hlt' (by omega)
    rw [hr] at hm;cases hm
 have hgoal : ∀ (listed : Array Bool) (a : Act) (w : World),Inv ops loose T n a0.defers C Row listed a w->(∀ i,i < ops.size->listed.getD i false = true)->Q .normal a w:=by
  intro listed a w hI hd
  obtain ⟨hc,hdf,hs,hls,hcl,u,hu,hr⟩:=hI
  have hat : ∀ k,a.tmps.getD k undef = (T u).getD k undef:=fun k=>by
   refine hu k ?_
   by_cases hk : k ∈ dsts ops
   ·obtain ⟨i,o,hi,hik⟩:=hfill k hk
    exact .inr ⟨i,o,hi,hik,hd i (Array.getElem?_eq_some_iff.1 hi).1⟩
   ·exact .inl hk
  have ha : a = ⟨T u,a0.defers⟩:=by
   obtain ⟨t,df⟩:=a
   simp only at hdf hs hat
   subst hdf
   congr 1
   apply Array.ext
   ·rw [hs,hn]
   ·intro k h1 h2
    have:=hat k
    simpa [Array.getD,h1,h2] using this
  rw [ha]
  refine hend _ u w hd hc fun k hk=>hr k hk ?_
  obtain ⟨i,o,hi,hik⟩:=hfill k (hl k hk)
  exact ⟨i,o,hi,hik,hd i (Array.getElem?_eq_some_iff.1 hi).1⟩
 have hstep : ∀ (listed : Array Bool) (a : Act) (w : World) (i : Nat) (K : Act->World->Prop),Inv ops loose T n a0.defers C Row listed a w->i ∈ Region.ready .any ops listed ->
   (∀ a' w',Inv ops loose T n a0.defers C Row (listed.setIfInBounds i true) a' w'->K a' w')->wpOp P ops Q i K a w:=by
  intro listed a w i K hI hi hK
  obtain ⟨hun,o,ho,hdep⟩:=mem_ready.1 hi
  obtain ⟨hg,hsel,hw⟩:=hall' i o ho
  obtain ⟨hc,hdf,hs,hls,hcl,u,hu,hr⟩:=hI
  have hio : i < ops.size:=(Array.getElem?_eq_some_iff.1 ho).1
  have hread : ∀ t ∈ reads o,t ∉ dsts ops\/∃ (j : Nat) (oj : Oper),ops[j]? = some oj/\oj.dst = some t/\listed.getD j false = true:=by
   intro t ht
   have h1:=List.all_eq_true.1 hw t ht
   simp only [Bool.or_eq_true,Bool.not_eq_true',List.any_eq_true,Bool.and_eq_true,beq_iff_eq] at h1
   rcases h1 with ⟨e,he0,hb,hd⟩ | h1
   ·have he : e ∈ o.after:=by simpa using he0
    right
    cases hj : ops[e.on]? with
    | none=>rw [hj] at hd;simp at hd
    | some oj =>
     rw [hj] at hd
     exact ⟨e.on,oj,hj,by simpa using hd,hdep e he hb⟩
   ·left
    intro hm
    rw [List.contains_iff_mem.2 hm] at h1;cases h1
  have hcongr : execOp a.eval o = execOp (Act.eval ⟨T u,a0.defers⟩) o:=by
   refine execOp_congr o (fun cs b hh=>by unfold isSelect at hsel;rw [hh] at hsel;cases hsel) fun x hx=>?_
   cases x with
   | tmp t =>
    have : t ∈ reads o:=List.mem_filterMap.2 ⟨.tmp t,by simpa using hx,rfl⟩
    exact hu t (hread t this)
   | _=>rfl
  have hli : lst listed i = false:=by
   have hsz : i < listed.size:=by omega
   unfold lst
   rw [Array.getD_eq_getD_getElem?,Array.getElem?_eq_getElem hsz] at hun ⊢
   exact hun
  have hset':=lst_set (listed:=listed) (i:=i) (by omega)
  have hgv:=hops i o ho _ u w hli (fun j hj=>anc_of hcl _ i j o ho hdep hj) (fun k j hk hj=>by
   cases hok : ops[k]? with
   | none=>cases hsz : ops.size with
    | zero=>rw [hsz] at hj;simp [anc] at hj
    | succ f=>rw [hsz] at hj;unfold anc at hj;rw [hok] at hj;cases hj
   | some ok=>exact anc_of hcl _ k j ok hok (hcl k ok hok hk) hj) hc (fun k hk hkr=>hr k hk (by
   rcases hread k hkr with h | h
   ·exact absurd (hl k hk) h
   ·exact h))
  have hwant : Region.wanted o (yielded ops a.tmps) = Region.wanted o (yielded ops (T u)):=by
   unfold guarded at hg
   unfold Region.wanted
   cases hgo : o.guard with
   | none=>rfl
   | some gw =>
    obtain ⟨g,want⟩:=gw
    rw [hgo] at hg
    simp only [Bool.and_eq_true,List.any_eq_true,beq_iff_eq] at hg
    obtain ⟨⟨e,he0,hb,hon⟩,hgd⟩:=hg
    have he : e ∈ o.after:=by simpa using he0
    have hy : yielded ops a.tmps g = yielded ops (T u) g:=by
     unfold yielded
     cases ht : (ops[g]?).bind (·.dst) with
     | none=>rfl
     | some t =>
      rw [ht] at hgd
      cases hog : ops[g]? with
      | none=>rw [hog] at ht;simp at ht
      | some og =>
       rw [hog] at ht
       have h1:=hu t (.inr ⟨g,og,hog,by simpa using ht,by rw [<- hon];exact hdep e he hb⟩)
       have hts : t < n:=by simpa using hlt t (List.mem_filterMap.2 ⟨og,by simpa using Array.mem_of_getElem? hog,by simpa using ht⟩)
       have h2 : a.tmps[t]? = (T u)[t]?:=by
        rw [Array.getD_eq_getD_getElem?,Array.getD_eq_getD_getElem?,Array.getElem?_eq_getElem (by rw [hs];exact hts),Array.getElem?_eq_getElem (by rw [hn];exact hts)] at h1
        rw [Array.getElem?_eq_getElem (by rw [hs];exact hts),Array.getElem?_eq_getElem (by rw [hn];exact hts)]
        exact congrArg some h1
       simp only [Option.bind_some,h2]
    simp only [hy]
  have fin : ∀ (v : Value) (w' : World),C (andI (lst listed) i) w'->St w w'\/w' = w->(∀ d,o.dst = some d->(d ∈ loose->Row d v w')/\(d ∉ loose->v = (T u).getD d undef))->K (a.put o.dst v) w':=by
   intro v w' hc' hs0 hd'
   have hst' : ∀ k v,Row k v w->Row k v w':=fun k v hr=>by
    rcases hs0 with h | rfl
    ·exact hst k v w w' h hr
    ·exact hr
   refine hK _ _ ?_
   have hdf' : (a.put o.dst v).defers = a0.defers:=by cases hd : o.dst <;> simp [Act.put,hdf]
   have hsz' : (a.put o.dst v).tmps.size = n:=by cases hd : o.dst <;> simp [Act.put,hs]
   refine ⟨hset' ▸ hc',hdf',hsz',by simp [hls],?_,?_⟩
   ·intro k ok hok hk e he hb
    rw [hset'] at hk ⊢
    unfold andI at hk ⊢
    split
    ·rfl
    ·split at hk
     ·rename_i hki
      subst hki
      rw [ho] at hok;cases hok
      exact hdep e he hb
     ·exact hcl k ok hok hk e he hb
   have hset : ∀ (j : Nat),(listed.setIfInBounds i true).getD j false = true->j = i\/listed.getD j false = true:=fun j hj=>by
    by_cases e : j = i
    ·exact .inl e
    ·right
     rw [Array.getD_eq_getD_getElem?,Array.getElem?_setIfInBounds_ne (Ne.symm e)] at hj
     rwa [Array.getD_eq_getD_getElem?]
   cases hod : o.dst with
   | none =>
    refine ⟨u,fun k hk=>?_,fun k hk hk2=>hst' k _ (hr k hk ?_)⟩
    ·show a.tmps.getD k undef = _
     refine hu k (hk.imp (fun h=>h) fun ⟨j,oj,h1,h2,h3⟩=>⟨j,oj,h1,h2,?_⟩)
     rcases hset j h3 with rfl | h3
     ·rw [ho] at h1;cases h1;rw [hod] at h2;cases h2
     ·exact h3
    ·obtain ⟨j,oj,h1,h2,h3⟩:=hk2
     rcases hset j h3 with rfl | h3
     ·rw [ho] at h1;cases h1;rw [hod] at h2;cases h2
     ·exact ⟨j,oj,h1,h2,h3⟩
   | some d =>
    have hdm : d ∈ dsts ops:=List.mem_filterMap.2 ⟨o,by simpa using Array.mem_of_getElem? ho,hod⟩
    have hdn : d < n:=by simpa using hlt d hdm
    obtain ⟨hd1,hd2⟩:=hd' d hod
    have hother : ∀ k,k ≠ d->(k ∉ dsts ops\/∃ (j : Nat) (oj : Oper),ops[j]? = some oj/\oj.dst = some k/\(listed.setIfInBounds i true).getD j false = true)->(k ∉ dsts ops\/∃ (j : Nat) (oj : Oper),ops[j]? = some oj/\oj.dst = some k/\listed.getD j false = true):=fun k hkd h=>h.imp (fun h=>h) fun ⟨j,oj,h1,h2,h3⟩=>⟨j,oj,h1,h2,by
     rcases hset j h3 with rfl | h3
     ·rw [ho] at h1;cases h1;rw [hod] at h2;cases h2;exact absurd rfl hkd
     ·exact h3⟩
    refine ⟨fun k=>if k = d then v else u k,fun k hk=>?_,fun k hk hk2=>?_⟩
    ·show (a.tmps.setIfInBounds d v).getD k undef = _
     by_cases hkd : k = d
     ·subst hkd
      have e1 : (a.tmps.setIfInBounds k v).getD k undef = v:=by rw [Array.getD_eq_getD_getElem?,Array.getElem?_setIfInBounds_self_of_lt (by rw [hs];exact hdn)];rfl
      rw [e1]
      by_cases hkl : k ∈ loose
      ·rw [hT1 _ _ hkl,if_pos rfl]
      ·rw [hd2 hkl];exact hT2 _ _ k hkl
     ·have e1 : (a.tmps.setIfInBounds d v).getD k undef = a.tmps.getD k undef:=by
       rw [Array.getD_eq_getD_getElem?,Array.getElem?_setIfInBounds_ne (Ne.symm hkd),<- Array.getD_eq_getD_getElem?]
      rw [e1,hu k (hother k hkd hk)]
      by_cases hkl : k ∈ loose
      ·rw [hT1 _ _ hkl,hT1 _ _ hkl]
       exact (if_neg hkd).symm
      ·exact hT2 _ _ _ hkl
    ·by_cases hkd : k = d
     ·subst hkd
      show Row k (if k = k then v else u k) w'
      rw [if_pos rfl]
      exact hd1 hk
     ·show Row k (if k = d then v else u k) w'
      rw [if_neg hkd]
      refine hst' k _ (hr k hk ?_)
      rcases hother k hkd (.inr hk2) with h | h
      ·exact absurd (hl k hk) h
      ·exact h
  unfold wpOp
  simp only [ho]
  by_cases hwt : Region.wanted o (yielded ops (T u)) = true
  ·rw [hwant,if_pos hwt]
   rw [if_pos hwt,<- hcongr] at hgv
   exact .inl (wp_of_gives hgv fun v w' ⟨hc',hs',hd'⟩=>fin v w' hc' (.inl hs') hd')
  ·rw [hwant,if_neg hwt]
   rw [if_neg hwt] at hgv
   exact fin undef w hgv.1 (.inr rfl) fun d hd=>⟨fun hdl=>absurd hdl (hgv.2 d hd).1,fun _=>(hgv.2 d hd).2.symm⟩
 have full : ∀ (fuel : Nat) (listed : Array Bool) (a : Act) (w : World),Inv ops loose T n a0.defers C Row listed a w->listed.toList.countP (fun b=>!b)<=fuel->wpAny P .any ops Q fuel listed a w:=by
  intro fuel
  induction fuel with
  | zero =>
   intro listed a w hI hf
   have hall0 : ∀ i,i < ops.size->listed.getD i false = true:=fun i hi=>by
    have h1 : listed.toList.countP (fun b=>!b) = 0:=by omega
    rw [List.countP_eq_zero] at h1
    have hsz : i < listed.size:=by have:=hI.ls;omega
    have:=h1 listed[i] (by simp)
    simpa [Array.getD,hsz] using this
   refine ⟨?_,hgoal listed a w hI hall0⟩
   rw [List.eq_nil_iff_forall_not_mem]
   intro i hi
   obtain ⟨h1,o,ho,_⟩:=mem_ready.1 hi
   have hio : i < ops.size:=(Array.getElem?_eq_some_iff.1 ho).1
   have h2:=hall0 i hio
   have hsz : i < listed.size:=by have:=hI.ls;omega
   simp [Array.getD,hsz] at h1 h2
   rw [h1] at h2;cases h2
  | succ fuel ih =>
   intro listed a w hI hf
   refine ⟨fun hr=>hgoal listed a w hI (hdone listed hI.ls hr),fun i hi=>hstep listed a w i _ hI hi fun a' w' hI'=>ih _ a' w' hI' ?_⟩
   obtain ⟨h1,o,ho,_⟩:=mem_ready.1 hi
   have hsz : i < listed.size:=by have:=hI.ls;have:=(Array.getElem?_eq_some_iff.1 ho).1;omega
   have h2 : listed.toList[i]? = some false:=by simp [Array.getD,hsz] at h1;simp [hsz,h1]
   have h3:=List.countP_set (p:=fun b=>!b) (l:=listed.toList) (i:=i) (a:=true) (by simpa using hsz)
   have h4 : listed.toList[i]'(by simpa using hsz) = false:=by rw [List.getElem?_eq_getElem (by simpa using hsz)] at h2;simpa using h2
   have h5 : 0 < listed.toList.countP (fun b=>!b):=List.countP_pos_iff.2 ⟨false,List.mem_of_getElem? h2,rfl⟩
   have h6 : (listed.setIfInBounds i true).toList = listed.toList.set i true:=by simp
   rw [h6,h3,h4]
   simp only [Bool.not_false,if_true,Bool.not_true,Bool.false_eq_true,if_false]
   omega
 have hrep : lst (Array.replicate ops.size false) = fun _=>false:=by
  funext j
  unfold lst
  rw [Array.getD_eq_getD_getElem?,Array.getElem?_replicate]
  split <;> rfl
 have hC0 : C (lst (Array.replicate ops.size false)) { w0 with drawn:=w0.drawn + 1 }:=by rw [hrep];exact hC
 refine wp_region_any hm (full ops.size _ a0 _ ⟨hC0,rfl,h0,by simp,(fun k o _ hk=>absurd hk (by rw [hrep];simp)),fun _=>undef,fun k hk=>?_,fun k hk ⟨i,o,h1,h2,h3⟩=>?_⟩ ?_)
 ·rcases hk with hk | ⟨i,o,h1,h2,h3⟩
  ·exact hk0 _ k hk
  ·simp [Array.getD] at h3
 ·simp [Array.getD] at h3
 ·have:=List.countP_le_length (p:=fun b=>!b) (l:=(Array.replicate ops.size false).toList)
  simpa using this
def eachOp (p : Nat->Oper->Prop) : Nat->List Oper->Prop
 | _,[]=>True
 | k,o :: l=>p k o/\eachOp p (k + 1) l
theorem eachOp_mem {p : Nat->Oper->Prop} (l : List Oper) : ∀ k,eachOp p k l->∀ i o,l[i]? = some o->p (k + i) o:=by
 induction l with
 | nil=>intro k _ i o h;simp at h
 | cons x r ih =>
  intro k h i o hi
  unfold eachOp at h
  cases i with
  | zero=>simp at hi;subst hi;exact h.1
  | succ i =>
   have:=ih (k + 1) h.2 i o (by simpa using hi)
   rwa [show k + (i + 1) = k + 1 + i by omega]
theorem eachOp_at {p : Nat->Oper->Prop} {ops : Array Oper} (h : eachOp p 0 ops.toList) (i : Nat) (o : Oper) (hi : ops[i]? = some o) : p i o:=by
 have:=eachOp_mem _ 0 h i o (by simpa using hi)
 rwa [Nat.zero_add] at this
theorem wantedI {p : Prop} [Decidable p] {A B : Prop} (h : p) (a : A) : if p then A else B:=by rw [if_pos h];exact a
theorem wantedN {p : Prop} [Decidable p] {A B : Prop} (h : ¬ p) (b : B) : if p then A else B:=by rw [if_neg h];exact b
theorem andI_same (L : Nat->Bool) (i : Nat) : andI L i i = true:=by simp [andI]
theorem andI_ne (L : Nat->Bool) {i j : Nat} (h : j ≠ i) : andI L i j = L j:=by simp [andI,h]
theorem flow_loose {T : (Nat->Value)->Array Value} {p : Nat} (hT : ∀ u,T u = (T fun _=>undef).setIfInBounds p (u p)) (u v : Nat->Value) (k : Nat) (hk : k ∉ [p]) : (T u).getD k undef = (T v).getD k undef:=by
 have hne : p ≠ k:=fun e=>hk (by simp [e])
 rw [hT u,hT v,Array.getD_eq_getD_getElem?,Array.getD_eq_getD_getElem?,Array.getElem?_setIfInBounds_ne hne,Array.getElem?_setIfInBounds_ne hne]
theorem flow_keep {n : Nat} {ops : Array Oper} {A B : Array Value} (l : List Nat) (hl : ((List.range n).filter fun k=>!(dsts ops).contains k) = l) (hA : A.size = n) (hB : B.size = n) (h : ∀ k ∈ l,A.getD k undef = B.getD k undef) (k : Nat) (hk : k ∉ dsts ops) : A.getD k undef = B.getD k undef:=by
 by_cases hkn : k < n
 ·refine h k (hl ▸ List.mem_filter.2 ⟨List.mem_range.2 hkn,?_⟩)
  cases hc : (dsts ops).contains k
  ·rfl
  ·exact absurd (List.contains_iff_mem.1 hc) hk
 ·rw [Array.getD_eq_getD_getElem?,Array.getD_eq_getD_getElem?,Array.getElem?_eq_none (by omega),Array.getElem?_eq_none (by omega)]
end Go.Proofs.YtilkdeghknjjhaaGreatDoor
namespace Go.Proofs.YtilkdeghknjjhaaGreatDoor
open Go.RowKit M
theorem ba_size (l : Bs) : (ba l).size = l.length:=by simp [ba,ByteArray.size]
theorem rtake_len (l : Bs) (r : Rr) (n : Nat) : (rtake l r n).1.length<=n:=by
 unfold rtake
 split
 ·simp
 ·simp;omega
theorem rwords_len (l : Bs) (r : Rr) : (rwords l r).1.length<=255:=Nat.le_trans (rtake_len _ _ _) (rlen_le l r)
theorem rwords_fits {t : ByteArray} {r : Rr} (h : Fits t r) : Fits t (rwords (bs t) r).2:=rtake_fits (rlen_fits h) _
theorem words_any (g : Nat) (t : ByteArray) (r : Rr) (w : World) (h : RdrAt w g t r) (hf : Fits t r) :
  Calls Tryz.prog 284 #[.pointer (some ⟨g,0,none⟩)] w fun e w'=>e = .returned (.string (ba (rwords (bs t) r).1))/\RdrAt w' g t (rwords (bs t) r).2/\Tr (One g) w w':=by
 have hL:=length_any g t r w h hf
 have HT : Hid (∀ w1,RdrAt w1 g t (rlen (bs t) r).2->Calls Tryz.prog 248 #[.pointer (some ⟨g,0,none⟩),.int .i64 (rlen (bs t) r).1] w1 fun e w'=>e = .returned (.string (ba (rwords (bs t) r).1))/\RdrAt w' g t (rwords (bs t) r).2/\Tr (One g) w1 w') :=
  fun w1 h1=>take_any g t _ _ w1 h1 (rlen_fits hf) (by have:=rlen_le (bs t) r;omega)
 have hln:=rwords_len (bs t) r
 obtain ⟨n,hn⟩ : ∃ n,(rlen (bs t) r).1 = n:=⟨_,rfl⟩
 obtain ⟨q,hq⟩ : ∃ q,rwords (bs t) r = q:=⟨_,rfl⟩
 rw [hq] at HT hln ⊢
 rw [hn] at HT hL
 have hs : (ba q.1).size<=1000000000:=by rw [ba_size];omega
 have HC : Hid (∀ w1,Calls Tryz.prog 90 #[.string (ba q.1)] w1 fun e w'=>e = .returned (.string (ba q.1))/\Below w1.heap.size w1 w'):=fun w1=>Clone_any _ w1 hs
 obtain ⟨s,hsq⟩ : ∃ s,ba q.1 = s:=⟨_,rfl⟩
 rw [hsq] at HT HC ⊢
 clear hn hq h hf hln hs hsq
 go_enter Tryz.func284,Tryz.ntmps284
 go_wp2_with fail
 refine hL.mono ?_
 rintro e w1 ⟨rfl,h1,t1⟩
 go_wp2_with fail
 refine (HT.out w1 h1).mono ?_
 rintro e w2 ⟨rfl,h2,t2⟩
 go_wp2_with fail
 refine (HC.out w2).mono ?_
 rintro e w3 ⟨rfl,hb⟩
 go_wp2
 go_ret
 exact ⟨rfl,h2.below hb,(t1.trans t2).trans (below_tr hb _)⟩
end Go.Proofs.YtilkdeghknjjhaaGreatDoor
namespace Go.Proofs.YtilkdeghknjjhaaGreatDoor
open Go.RowKit M
def DR (s : ByteArray) (J : List (Int × Int)) (c : Int) : Prop :=
 (¬ Dec s.data.toList/\J = []/\c = 2)\/(Dec s.data.toList/\J = rdTo s.data.toList (hd s.data.toList)/\c = 0)
theorem Decode_u (s : ByteArray) (w : World) (hs : s.size<=maxLen) :
  Calls Tryz.prog 88 #[.string s] w fun e w'=>∃ r J c,e = .returned (.tuple #[r,.int .i64 c])/\DR s J c/\w'.ownsRow w.heap.size 183 2 r J.length (cellsE J)/\Below w.heap.size w w' :=
 (Decode_any s w hs).mono fun e w' ⟨hb,h⟩=>by
  rcases h with ⟨h1,he⟩ | ⟨h1,v,he,ho⟩
  ·exact ⟨_,[],2,he,.inl ⟨h1,rfl,rfl⟩,World.ownsRow_nil _ _ _ _,hb⟩
  ·exact ⟨v,_,0,he,.inr ⟨h1,rfl,rfl⟩,by rw [rdTo_len];exact ho,hb⟩
end Go.Proofs.YtilkdeghknjjhaaGreatDoor
namespace Go.Proofs.YtilkdeghknjjhaaGreatDoor
open Go.RowKit M
theorem bs_app (a b : ByteArray) : bs (a ++ b) = bs a ++ bs b:=by unfold bs;simp
theorem fnm_ne (i : Nat) : fnm i ≠ ByteArray.empty:=fun h=>by
 have:=congrArg bs h
 unfold fnm at this
 rw [bs_app] at this
 have h2 : bs ByteArray.empty = []:=rfl
 have h3 : bs (⟨#[100,97,116,97,46]⟩ : ByteArray) = [100,97,116,97,46]:=rfl
 rw [h2,h3] at this
 cases this
theorem fnm_inj {i j : Nat} (hi : i < 9223372036854775808) (hj : j < 9223372036854775808) (h : fnm i = fnm j) : i = j:=by
 have:=congrArg bs h
 unfold fnm at this
 rw [bs_app,bs_app,bs_ba,bs_ba] at this
 exact itoa_inj hi hj (List.append_cancel_left this)
end Go.Proofs.YtilkdeghknjjhaaGreatDoor
