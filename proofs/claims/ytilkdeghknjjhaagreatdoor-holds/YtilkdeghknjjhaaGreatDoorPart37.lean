/- A part of the proof. -/
import Derived.Test.YtilkdeghknjjhaaGreatDoorPart36
set_option maxRecDepth 20000
set_option maxHeartbeats 3200000
set_option linter.unusedVariables false
namespace Go.Proofs.YtilkdeghknjjhaaGreatDoor
open Go.RowKit M
variable {n : Int} {w w' : World} {v : Value} {l : List Int}
def up0 (b : Int) : Int:=if b < 0 then 0 else b
def Dk.fail (D : Dk) (b : Int) : Dk:={ D with wait:=up0 b }
def Dk.die (D : Dk) (b : Int) : Dk:={ D with life:=up0 b }
theorem Fail_any (Z : Nat->Prop) (p : Nat) (D : Dk) (b : Int) (w : World) (h : DiskAt Z w p D) :
  Calls Tryz.prog 108 #[.pointer (some ⟨p,0,none⟩),.int .i64 b] w fun e w'=>e = .returned (.tuple #[])/\DiskAt Z w' p (D.fail b)/\Tr Z w w':=by
 obtain ⟨vf,vn,vs,vt,h⟩:=h
 have c5 : w.cell? ⟨p,5,none⟩ = some (.int .i64 D.wait):=(h.cell 5).trans rfl
 have fz : ∀ o,w.frozen? ⟨p,o,none⟩ = false:=h.frozen
 have HZ : Hid (DiskIn Z w p D vf vn vs vt):=h
 clear h
 by_cases hb : b < 0
 ·have hm : max b 0 = 0:=by omega
  have HB : Hid (D.fail b = { D with wait:=0 }):=by show D.fail b = _;simp [Dk.fail,up0,hb]
  go_enter Tryz.func108,Tryz.ntmps108
  go_wp2
  go_end0
  exact ⟨rfl,by rw [HB.out];first | exact ⟨_,_,_,_,HZ.out.setCell 5 _ rfl rfl rfl rfl rfl⟩ | (rw [hm];exact ⟨_,_,_,_,HZ.out.setCell 5 _ rfl rfl rfl rfl rfl⟩),(Tr.refl Z w).setCell HZ.out.zp _⟩
 ·have hm : max b 0 = b:=by omega
  have HB : Hid (D.fail b = { D with wait:=b }):=by show D.fail b = _;simp [Dk.fail,up0,hb]
  go_enter Tryz.func108,Tryz.ntmps108
  go_wp2
  go_end0
  exact ⟨rfl,by rw [HB.out];first | exact ⟨_,_,_,_,HZ.out.setCell 5 _ rfl rfl rfl rfl rfl⟩ | (rw [hm];exact ⟨_,_,_,_,HZ.out.setCell 5 _ rfl rfl rfl rfl rfl⟩),(Tr.refl Z w).setCell HZ.out.zp _⟩
theorem Die_any (Z : Nat->Prop) (p : Nat) (D : Dk) (b : Int) (w : World) (h : DiskAt Z w p D) :
  Calls Tryz.prog 60 #[.pointer (some ⟨p,0,none⟩),.int .i64 b] w fun e w'=>e = .returned (.tuple #[])/\DiskAt Z w' p (D.die b)/\Tr Z w w':=by
 obtain ⟨vf,vn,vs,vt,h⟩:=h
 have c6 : w.cell? ⟨p,6,none⟩ = some (.int .i64 D.life):=(h.cell 6).trans rfl
 have fz : ∀ o,w.frozen? ⟨p,o,none⟩ = false:=h.frozen
 have HZ : Hid (DiskIn Z w p D vf vn vs vt):=h
 clear h
 by_cases hb : b < 0
 ·have hm : max b 0 = 0:=by omega
  have HB : Hid (D.die b = { D with life:=0 }):=by show D.die b = _;simp [Dk.die,up0,hb]
  go_enter Tryz.func60,Tryz.ntmps60
  go_wp2
  go_end0
  exact ⟨rfl,by rw [HB.out];first | exact ⟨_,_,_,_,HZ.out.setCell 6 _ rfl rfl rfl rfl rfl⟩ | (rw [hm];exact ⟨_,_,_,_,HZ.out.setCell 6 _ rfl rfl rfl rfl rfl⟩),(Tr.refl Z w).setCell HZ.out.zp _⟩
 ·have hm : max b 0 = b:=by omega
  have HB : Hid (D.die b = { D with life:=b }):=by show D.die b = _;simp [Dk.die,up0,hb]
  go_enter Tryz.func60,Tryz.ntmps60
  go_wp2
  go_end0
  exact ⟨rfl,by rw [HB.out];first | exact ⟨_,_,_,_,HZ.out.setCell 6 _ rfl rfl rfl rfl rfl⟩ | (rw [hm];exact ⟨_,_,_,_,HZ.out.setCell 6 _ rfl rfl rfl rfl rfl⟩),(Tr.refl Z w).setCell HZ.out.zp _⟩
def cellsI (l : List Int) : List Value:=l.map (Value.int .i64)
theorem cellsI_len (l : List Int) : (cellsI l).length = l.length:=by simp [cellsI]
def pickI (c n : Int) : Int:=(if c < 0 then -(c + 1) else c) % n
theorem pickI_lt (c : Int) (h : 0 < n) : 0<=pickI c n/\pickI c n < n:=by
 unfold pickI
 exact ⟨Int.emod_nonneg _ (by omega),Int.emod_lt_of_pos _ h⟩
def pickK (l : List Int) (k : Nat) (n : Int) : Int:=if k < l.length then pickI (l.getD k 0) n else n - 1
theorem pickK_lt (l : List Int) (k : Nat) (h : 0 < n) : 0<=pickK l k n/\pickK l k n < n:=by
 unfold pickK
 split
 ·exact pickI_lt _ h
 ·omega
def RdI (w : World) (v : Value) (l : List Int) : Prop :=
 ∃ a cap,v = .slice a l.length cap/\l.length<=cap/\(0 < l.length->∃ b off,a = some ⟨b,off,none⟩/\∀ j,j < l.length->w.cell? ⟨b,off + j,none⟩ = some (.int .i64 (l.getD j 0)))
theorem RdI.tr {Y : Nat->Prop} (h : RdI w v l) (t : Tr Y w w') (hz : InZ (fun k=>¬ Y k) v) : RdI w' v l:=by
 obtain ⟨a,cap,rfl,hc,h1⟩:=h
 refine ⟨a,cap,rfl,hc,fun h0=>?_⟩
 obtain ⟨b,off,rfl,h2⟩:=h1 h0
 exact ⟨b,off,rfl,fun j hj=>cell_tr t (h2 j hj) (hz b rfl)⟩
theorem RdI.below (h : RdI w v l) (t : Below w.heap.size w w') : RdI w' v l:=by
 obtain ⟨a,cap,rfl,hc,h1⟩:=h
 refine ⟨a,cap,rfl,hc,fun h0=>?_⟩
 obtain ⟨b,off,rfl,h2⟩:=h1 h0
 exact ⟨b,off,rfl,fun j hj=>cell_later t (h2 j hj)⟩
def In64 (l : List Int) : Prop:=∀ x ∈ l,-9223372036854775808<=x/\x<=9223372036854775807
theorem In64.at (h : In64 l) (j : Nat) : -9223372036854775808<=l.getD j 0/\l.getD j 0<=9223372036854775807:=by
 by_cases hj : j < l.length
 ·have:=h _ (List.getElem_mem hj)
  simpa [List.getD,List.getElem?_eq_getElem hj] using this
 ·simp [List.getD,List.getElem?_eq_none (Nat.le_of_not_lt hj)]
theorem dpick_any (v : Value) (l : List Int) (k : Nat) (n : Int) (w : World) (h : RdI w v l) (hl : In64 l) (hlen : l.length<=1000000000000000) (hk : k<=1000000000000) (hn0 : 0 < n) (hn1 : n<=1000000000000) :
  Calls Tryz.prog 42 #[v,.int .i64 k,.int .i64 n] w fun e w'=>e = .returned (.int .i64 (pickK l k n))/\w' = w:=by
 obtain ⟨a,cap,rfl,_,hc⟩:=h
 have hl1 : (l.length : Int)<=1000000000000000:=by omega
 have hk1 : (k : Int)<=1000000000000:=by omega
 have hk0 : (0 : Int)<=(k : Int):=by omega
 by_cases hkl : k < l.length
 ·obtain ⟨g,off,rfl,hr⟩:=hc (by omega)
  have e0:=hr k hkl
  have q1 : (k : Int) < (l.length : Int):=by omega
  obtain ⟨b0,b1⟩:=hl.at k
  have HP : Hid (pickK l k n = pickI (l.getD k 0) n):=by show _ = _;unfold pickK;rw [if_pos hkl]
  obtain ⟨c,hcc⟩ : ∃ c,l.getD k 0 = c:=⟨_,rfl⟩
  rw [hcc] at e0 HP b0 b1
  clear hc hr hkl
  by_cases hneg : c < 0
  ·have HQ : Hid (pickI c n = (-(c + 1)) % n):=by show _ = _;unfold pickI;rw [if_pos hneg]
   have hw1 : IntKind.i64.wrap (c + 1) = c + 1:=wrap_in _ (by omega) (by omega)
   have hw2 : IntKind.i64.wrap (-(c + 1)) = -(c + 1):=wrap_in _ (by omega) (by omega)
   go_enter Tryz.func42,Tryz.ntmps42
   go_wp2
   go_ret
   refine ⟨?_,rfl⟩
   have e : ∀ x : Int,0<=x->x.tmod n = x % n:=fun x hx=>Int.tmod_eq_emod_of_nonneg hx
   rw [HP.out,HQ.out,<- e _ (by omega),Int.neg_tmod]
   rfl
  ·have HQ : Hid (pickI c n = c % n):=by show _ = _;unfold pickI;rw [if_neg hneg]
   go_enter Tryz.func42,Tryz.ntmps42
   go_wp2
   go_ret
   refine ⟨?_,rfl⟩
   have e : ∀ x : Int,0<=x->x.tmod n = x % n:=fun x hx=>Int.tmod_eq_emod_of_nonneg hx
   rw [HP.out,HQ.out,<- e _ (by omega)]
   rfl
 ·have HP : Hid (pickK l k n = n - 1):=by show _ = _;unfold pickK;rw [if_neg hkl]
  have q1 : (l.length : Int)<=(k : Int):=by omega
  have hw : IntKind.i64.wrap (n - 1) = n - 1:=wrap_in _ (by omega) (by omega)
  clear hc hkl
  go_enter Tryz.func42,Tryz.ntmps42
  go_wp2
  go_ret
  exact ⟨by rw [HP.out];rfl,rfl⟩
end Go.Proofs.YtilkdeghknjjhaaGreatDoor
namespace Go.Proofs.YtilkdeghknjjhaaGreatDoor
open Go.RowKit M
variable {D E : Dk} {k a hd i : Nat}
noncomputable def encs (ms : List Mt) : Bs:=ms.flatMap encB
theorem encs_nil : encs [] = []:=rfl
theorem encs_cons (m : Mt) (ms : List Mt) : encs (m :: ms) = encB m ++ encs ms:=rfl
theorem encs_app (a b : List Mt) : encs (a ++ b) = encs a ++ encs b:=by simp [encs]
def Tail (t : Bs) : Prop:=t = []\/∃ m : Mt,m.OK/\∃ n,n < (encB m).length/\t = (encB m).take n
theorem Tail.take {t : Bs} (h : Tail t) (n : Nat) : Tail (t.take n):=by
 rcases h with rfl | ⟨m,hm,k,hk,rfl⟩
 ·rw [List.take_nil];exact .inl rfl
 ·rw [List.take_take];exact .inr ⟨m,hm,min n k,by omega,rfl⟩
theorem cut_encs : ∀ (ms : List Mt) (t : Bs) (n : Nat),(∀ m ∈ ms,m.OK)->Tail t->∃ p t',p<=ms.length/\Tail t'/\(encs ms ++ t).take n = encs (ms.take p) ++ t'/\(∀ q,q<=ms.length->(encs (ms.take q)).length<=n->q<=p)
 | [],t,n,_,ht=>⟨0,t.take n,Nat.le_refl _,ht.take n,by simp [encs_nil],fun q hq _=>hq⟩
 | m :: ms,t,n,hm,ht=>by
  by_cases hn : n < (encB m).length
  ·refine ⟨0,(encB m).take n,Nat.zero_le _,.inr ⟨m,hm m (by simp),n,hn,rfl⟩,?_,fun q hq hl=>?_⟩
   ·rw [encs_cons,List.append_assoc,List.take_append_of_le_length (by omega)]
    simp [encs_nil]
   ·cases q with
    | zero=>exact Nat.le_refl _
    | succ q =>
     rw [List.take_succ_cons,encs_cons,List.length_append] at hl
     omega
  ·obtain ⟨p,t',h1,h2,h3,h4⟩:=cut_encs ms t (n - (encB m).length) (fun x hx=>hm x (by simp [hx])) ht
   refine ⟨p + 1,t',by simp;omega,h2,?_,fun q hq hl=>?_⟩
   ·rw [encs_cons,List.append_assoc,List.take_append,List.take_of_length_le (by omega),h3,List.take_succ_cons,encs_cons,List.append_assoc]
   ·cases q with
    | zero=>omega
    | succ q =>
     rw [List.take_succ_cons,encs_cons,List.length_append] at hl
     have:=h4 q (by simp at hq;omega) (by omega)
     omega
def allB (B : Nat->List Mt) : Nat->List Mt
 | 0=>[]
 | k + 1=>allB B k ++ B (k + 1)
theorem allB_congr {B C : Nat->List Mt} : ∀ k,(∀ i,1<=i->i<=k->B i = C i)->allB B k = allB C k
 | 0,_=>rfl
 | k + 1,h=>by
  show allB B k ++ B (k + 1) = allB C k ++ C (k + 1)
  rw [allB_congr k (fun i h1 h2=>h i h1 (by omega)),h (k + 1) (by omega) (Nat.le_refl _)]
theorem allB_prefix (B : Nat->List Mt) : ∀ (k j : Nat),j<=k->allB B j <+: allB B k
 | 0,j,h=>by rw [show j = 0 by omega];exact List.prefix_refl _
 | k + 1,j,h=>by
  by_cases e : j = k + 1
  ·subst e;exact List.prefix_refl _
  ·exact (allB_prefix B k j (by omega)).trans (List.prefix_append _ _)
structure Files (D : Dk) (k a : Nat) (F : Nat->Nat) (B : Nat->List Mt) (T : Nat->Bs) : Prop where
 ak : a<=k
 kf : k<=D.files.length
 srt : Srt D.now
 srs : Srt D.safe
 now : ∀ x,x ∈ D.now ↔ ∃ i,1<=i/\i<=k/\x = ⟨fnm i,F i⟩
 safe : ∀ x,x ∈ D.safe ↔ ∃ i,1<=i/\i<=a/\x = ⟨fnm i,F i⟩
 steps : D.steps = (List.range (k - a)).map fun i=>⟨1,ByteArray.empty,fnm (a + 1 + i),F (a + 1 + i)⟩
 inj : ∀ i j,1<=i->i<=k->1<=j->j<=k->F i = F j->i = j
 lt : ∀ i,1<=i->i<=k->F i < D.files.length
 dat : ∀ i,1<=i->i<=k->bs (fl D.files (F i)).d = encs (B i) ++ T i
 ok : ∀ i,1<=i->i<=k->(∀ m ∈ B i,m.OK)/\Tail (T i)
 syn : ∀ i,1<=i->i < k->(fl D.files (F i)).s = (fl D.files (F i)).d.size
 syk : ∀ i,1<=i->i<=k->(fl D.files (F i)).s<=(fl D.files (F i)).d.size
 bnd : ∀ i,1<=i->i<=k->(fl D.files (F i)).d.size<=100000
def Sure (D : Dk) (a : Nat) (F : Nat->Nat) (B : Nat->List Mt) (hd : Nat) : Prop :=
 ∃ p,hd<=(allB B (a - 1)).length + p/\(a = 0->p = 0)/\(1<=a->p<=(B a).length/\(encs ((B a).take p)).length<=(fl D.files (F a)).s)
theorem Files.of {F : Nat->Nat} {B : Nat->List Mt} {T : Nat->Bs} (h : Files D k a F B T) (h1 : E.files = D.files) (h2 : E.now = D.now) (h3 : E.safe = D.safe) (h4 : E.steps = D.steps) : Files E k a F B T :=
 ⟨h.ak,h1 ▸ h.kf,h2 ▸ h.srt,h3 ▸ h.srs,h2 ▸ h.now,h3 ▸ h.safe,h4.trans h.steps,h.inj,h1 ▸ h.lt,h1 ▸ h.dat,h.ok,h1 ▸ h.syn,h1 ▸ h.syk,h1 ▸ h.bnd⟩
theorem Sure.of {F : Nat->Nat} {B : Nat->List Mt} (h : Sure D a F B hd) (h1 : E.files = D.files) : Sure E a F B hd:=by
 unfold Sure at h ⊢;rw [h1];exact h
theorem Files.chg {F : Nat->Nat} {B : Nat->List Mt} {T : Nat->Bs} (h : Files D k a F B T) : Files D.chg k a F B T:=h.of D.chg_files D.chg_now D.chg_safe D.chg_steps
theorem Sure.chg {F : Nat->Nat} {B : Nat->List Mt} (h : Sure D a F B hd) : Sure D.chg a F B hd:=h.of D.chg_files
theorem fl_set {l : List Fl} {j : Nat} {x : Fl} (h : i < l.length) : fl (l.set i x) j = if j = i then x else fl l j:=by
 unfold fl
 rw [List.getD_eq_getElem?_getD,List.getD_eq_getElem?_getD,List.getElem?_set]
 by_cases e : i = j
 ·subst e;simp [h]
 ·rw [if_neg e,if_neg (fun h=>e h.symm)]
theorem Files.at_ {F : Nat->Nat} {B : Nat->List Mt} {T : Nat->Bs} (h : Files D k a F B T) (h1 : 1<=i) (h2 : i<=k) : there D.now (fnm i) = true/\D.at (fnm i) = F i:=by
 obtain ⟨h3,h4⟩:=mem_at h.srt ((h.now ⟨fnm i,F i⟩).2 ⟨i,h1,h2,rfl⟩)
 refine ⟨h3,?_⟩
 have h4 : nm D.now (fd D.now (fnm i)) = ⟨fnm i,F i⟩:=h4
 unfold Dk.at
 rw [h4]
theorem Files.sizeOf {F : Nat->Nat} {B : Nat->List Mt} {T : Nat->Bs} (h : Files D k a F B T) (h1 : 1<=i) (h2 : i<=k) : D.sizeOf (fnm i) = (fl D.files (F i)).d.size:=by
 unfold Dk.sizeOf;rw [(h.at_ h1 h2).2]
theorem Files.sync {F : Nat->Nat} {B : Nat->List Mt} {T : Nat->Bs} (h : Files D k a F B T) (hk : 1<=k) :
  Files (D.sync (fnm k)) k a F B T/\(D.syncs (fnm k) = true->(fl (D.sync (fnm k)).files (F k)).s = (fl (D.sync (fnm k)).files (F k)).d.size)/\(∀ hd,Sure D a F B hd->Sure (D.sync (fnm k)) a F B hd):=by
 obtain ⟨ht,ha⟩:=h.at_ hk (Nat.le_refl _)
 have hlt:=h.lt k hk (Nat.le_refl _)
 unfold Dk.sync
 by_cases hs : D.syncs (fnm k) = true
 ·rw [if_pos hs,ha]
  have e : ∀ j,fl (D.files.set (F k) { fl D.files (F k) with s:=(fl D.files (F k)).d.size }) j = if j = F k then { fl D.files (F k) with s:=(fl D.files (F k)).d.size } else fl D.files j:=fun j=>fl_set hlt
  have ed : ∀ j,(fl (D.files.set (F k) { fl D.files (F k) with s:=(fl D.files (F k)).d.size }) j).d = (fl D.files j).d:=fun j=>by
   rw [e];split
   ·rename_i hj;rw [hj]
   ·rfl
  refine ⟨⟨h.ak,by show k<=(D.files.set _ _).length;rw [List.length_set];exact h.kf,by show Srt D.chg.now;rw [D.chg_now];exact h.srt,by show Srt D.chg.safe;rw [D.chg_safe];exact h.srs,by show ∀ x,x ∈ D.chg.now ↔ _;rw [D.chg_now];exact h.now,by show ∀ x,x ∈ D.chg.safe ↔ _;rw [D.chg_safe];exact h.safe,D.chg_steps.trans h.steps,h.inj,fun i h1 h2=>by show _ < (D.files.set _ _).length;rw [List.length_set];exact h.lt i h1 h2,fun i h1 h2=>by rw [ed];exact h.dat i h1 h2,h.ok,fun i h1 h2=>?_,fun i h1 h2=>?_,fun i h1 h2=>by rw [ed];exact h.bnd i h1 h2⟩,fun _=>?_,fun hd hh=>?_⟩
  ·show (fl (D.files.set _ _) (F i)).s = (fl (D.files.set _ _) (F i)).d.size
   rw [ed,e];split
   ·rename_i hj;rw [hj]
   ·exact h.syn i h1 h2
  ·show (fl (D.files.set _ _) (F i)).s<=(fl (D.files.set _ _) (F i)).d.size
   rw [ed,e];split
   ·rename_i hj;rw [hj];exact Nat.le_refl _
   ·exact h.syk i h1 h2
  ·show (fl (D.files.set _ _) (F k)).s = (fl (D.files.set _ _) (F k)).d.size
   rw [ed,e,if_pos rfl]
  ·obtain ⟨p,h1,h2,h3⟩:=hh
   refine ⟨p,h1,h2,fun h4=>⟨(h3 h4).1,Nat.le_trans (h3 h4).2 ?_⟩⟩
   show _<=(fl (D.files.set _ _) (F a)).s
   rw [e];split
   ·rename_i hj;rw [hj];exact h.syk k hk (Nat.le_refl _)
   ·exact Nat.le_refl _
 ·rw [if_neg hs]
  exact ⟨h.chg,fun hh=>absurd hh hs,fun hd hh=>hh.chg⟩
theorem Files.syncDir {F : Nat->Nat} {B : Nat->List Mt} {T : Nat->Bs} (h : Files D k a F B T) (hm : D.may = true) : Files D.syncDir k k F B T:=by
 unfold Dk.syncDir
 rw [if_pos hm]
 exact ⟨Nat.le_refl _,by show k<=D.chg.files.length;rw [D.chg_files];exact h.kf,by show Srt D.chg.now;rw [D.chg_now];exact h.srt,h.srt,by show ∀ x,x ∈ D.chg.now ↔ _;rw [D.chg_now];exact h.now,h.now,by show ([] : List Stp) = _;simp,h.inj,by show ∀ i,_->_->_ < D.chg.files.length;rw [D.chg_files];exact h.lt,by show ∀ i,_->_->bs (fl D.chg.files _).d = _;rw [D.chg_files];exact h.dat,h.ok,by show ∀ i,_->_->(fl D.chg.files _).s = (fl D.chg.files _).d.size;rw [D.chg_files];exact h.syn,by show ∀ i,_->_->(fl D.chg.files _).s<=(fl D.chg.files _).d.size;rw [D.chg_files];exact h.syk,by show ∀ i,_->_->(fl D.chg.files _).d.size<=_;rw [D.chg_files];exact h.bnd⟩
theorem Files.create {F : Nat->Nat} {B : Nat->List Mt} {T : Nat->Bs} (h : Files D k a F B T) (hw : D.WF) (hk : k < 1000000000) (hs : 1<=k->(fl D.files (F k)).s = (fl D.files (F k)).d.size) (hc : D.creates (fnm (k + 1)) = true) :
  Files (D.create (fnm (k + 1))) (k + 1) a (fun j=>if j = k + 1 then D.files.length else F j) (fun j=>if j = k + 1 then [] else B j) (fun j=>if j = k + 1 then [] else T j)/\(fl (D.create (fnm (k + 1))).files D.files.length).d.size = 0/\(∀ hd,Sure D a F B hd->Sure (D.create (fnm (k + 1))) a (fun j=>if j = k + 1 then D.files.length else F j) (fun j=>if j = k + 1 then [] else B j) hd):=by
 obtain ⟨e1,e2,_⟩:=Dk.create_now hw hc
 have hak:=h.ak
 unfold Dk.create
 rw [if_pos hc,e1]
 have fo : ∀ j,j < D.files.length->fl (D.files ++ [Fl.z]) j = fl D.files j:=fun j hj=>by
  unfold fl;rw [List.getD_eq_getElem?_getD,List.getD_eq_getElem?_getD,List.getElem?_append_left hj]
 have fn : fl (D.files ++ [Fl.z]) D.files.length = Fl.z:=by unfold fl;rw [List.getD_eq_getElem?_getD];simp
 have low : ∀ i,i<=k->(if i = k + 1 then D.files.length else F i) = F i:=fun i hi=>if_neg (by omega)
 refine ⟨⟨by omega,by show k + 1<=(D.files ++ [Fl.z]).length;rw [List.length_append];exact Nat.succ_le_succ h.kf,srt_ins h.srt e2,by show Srt D.chg.safe;rw [D.chg_safe];exact h.srs,fun x=>?_,fun x=>?_,?_,fun i j h1 h2 h3 h4 he=>?_,fun i h1 h2=>?_,fun i h1 h2=>?_,fun i h1 h2=>?_,fun i h1 h2=>?_,fun i h1 h2=>?_,fun i h1 h2=>?_⟩,?_,fun hd hh=>?_⟩
 ·show x ∈ insN D.now _ ↔ _
  rw [mem_ins,h.now]
  constructor
  ·rintro (rfl | ⟨i,h1,h2,rfl⟩)
   ·exact ⟨k + 1,by omega,Nat.le_refl _,by rw [if_pos rfl]⟩
   ·exact ⟨i,h1,by omega,by rw [low i h2]⟩
  ·rintro ⟨i,h1,h2,rfl⟩
   by_cases hi : i = k + 1
   ·left;rw [if_pos hi,hi]
   ·right;exact ⟨i,h1,by omega,by rw [if_neg hi]⟩
 ·show x ∈ D.chg.safe ↔ _
  rw [D.chg_safe,h.safe]
  constructor
  ·rintro ⟨i,h1,h2,rfl⟩;exact ⟨i,h1,h2,by rw [low i (by omega)]⟩
  ·rintro ⟨i,h1,h2,rfl⟩;exact ⟨i,h1,h2,by rw [low i (by omega)]⟩
 ·show D.steps ++ [D.step1 (fnm (k + 1))] = _
  rw [h.steps,show k + 1 - a = (k - a) + 1 by omega,List.range_succ,List.map_append]
  congr 1
  ·refine List.map_congr_left fun i hi=>?_
   have:=List.mem_range.1 hi
   rw [low _ (by omega)]
  ·show [D.step1 (fnm (k + 1))] = [⟨1,ByteArray.empty,fnm (a + 1 + (k - a)),if a + 1 + (k - a) = k + 1 then D.files.length else F (a + 1 + (k - a))⟩]
   rw [show a + 1 + (k - a) = k + 1 by omega,if_pos rfl]
   rfl
 ·by_cases hi : i = k + 1
  ·by_cases hj : j = k + 1
   ·omega
   ·rw [if_pos hi,if_neg hj] at he
    have:=h.lt j h3 (by omega)
    have he : D.files.length = F j:=he
    omega
  ·by_cases hj : j = k + 1
   ·rw [if_neg hi,if_pos hj] at he
    have:=h.lt i h1 (by omega)
    have he : F i = D.files.length:=he
    omega
   ·rw [if_neg hi,if_neg hj] at he
    exact h.inj i j h1 (by omega) h3 (by omega) he
 ·show (if i = k + 1 then D.files.length else F i) < (D.files ++ [Fl.z]).length
  rw [List.length_append]
  split
  ·simp
  ·have:=h.lt i h1 (by omega);simp;omega
 ·show bs (fl (D.files ++ [Fl.z]) (if i = k + 1 then D.files.length else F i)).d = encs (if i = k + 1 then [] else B i) ++ (if i = k + 1 then [] else T i)
  by_cases hi : i = k + 1
  ·rw [if_pos hi,if_pos hi,if_pos hi,fn];rfl
  ·rw [if_neg hi,if_neg hi,if_neg hi,fo _ (h.lt i h1 (by omega))];exact h.dat i h1 (by omega)
 ·show (∀ m ∈ (if i = k + 1 then [] else B i),m.OK)/\Tail (if i = k + 1 then [] else T i)
  by_cases hi : i = k + 1
  ·rw [if_pos hi,if_pos hi];exact ⟨fun m hm=>by simp at hm,.inl rfl⟩
  ·rw [if_neg hi,if_neg hi];exact h.ok i h1 (by omega)
 ·show (fl (D.files ++ [Fl.z]) (if i = k + 1 then D.files.length else F i)).s = (fl (D.files ++ [Fl.z]) (if i = k + 1 then D.files.length else F i)).d.size
  rw [low i (by omega),fo _ (h.lt i h1 (by omega))]
  by_cases hi : i = k
  ·subst hi;exact hs h1
  ·exact h.syn i h1 (by omega)
 ·show (fl (D.files ++ [Fl.z]) (if i = k + 1 then D.files.length else F i)).s<=(fl (D.files ++ [Fl.z]) (if i = k + 1 then D.files.length else F i)).d.size
  by_cases hi : i = k + 1
  ·rw [if_pos hi,fn];exact Nat.le_refl _
  ·rw [if_neg hi,fo _ (h.lt i h1 (by omega))];exact h.syk i h1 (by omega)
 ·show (fl (D.files ++ [Fl.z]) (if i = k + 1 then D.files.length else F i)).d.size<=_
  by_cases hi : i = k + 1
  ·rw [if_pos hi,fn];exact Nat.zero_le _
  ·rw [if_neg hi,fo _ (h.lt i h1 (by omega))];exact h.bnd i h1 (by omega)
 ·show (fl (D.files ++ [Fl.z]) D.files.length).d.size = 0
  rw [fn];rfl
 ·obtain ⟨p,h1,h2,h3⟩:=hh
  refine ⟨p,?_,h2,fun h4=>?_⟩
  ·rw [allB_congr (B:=fun j=>if j = k + 1 then [] else B j) (C:=B) (a - 1) (fun i _ hi=>if_neg (by omega))];exact h1
  ·show p<=(if a = k + 1 then [] else B a).length/\(encs ((if a = k + 1 then [] else B a).take p)).length<=(fl (D.files ++ [Fl.z]) (if a = k + 1 then D.files.length else F a)).s
   rw [if_neg (by omega),if_neg (by omega),fo _ (h.lt a h4 hak)]
   exact h3 h4
theorem Files.append {F : Nat->Nat} {B : Nat->List Mt} {T : Nat->Bs} (h : Files D k a F B T) (hk : 1<=k) (hT : T k = []) (t : ByteArray) (m : Mt) (ht : bs t = encB m) (hm : m.OK) (hb : (fl D.files (F k)).d.size + t.size<=100000) (hap : D.appends (fnm k) t = true) :
  Files (D.append (fnm k) t) k a F (fun j=>if j = k then B k ++ [m] else B j) T/\(fl (D.append (fnm k) t).files (F k)).d.size = (fl D.files (F k)).d.size + t.size/\(∀ hd,Sure D a F B hd->Sure (D.append (fnm k) t) a F (fun j=>if j = k then B k ++ [m] else B j) hd):=by
 obtain ⟨hth,ha⟩:=h.at_ hk (Nat.le_refl _)
 have hlt:=h.lt k hk (Nat.le_refl _)
 unfold Dk.append
 rw [if_pos hap,ha]
 have e : ∀ j,fl (D.files.set (F k) { fl D.files (F k) with d:=(fl D.files (F k)).d ++ t }) j = if j = F k then { fl D.files (F k) with d:=(fl D.files (F k)).d ++ t } else fl D.files j:=fun j=>fl_set hlt
 have es : ∀ j,(fl (D.files.set (F k) { fl D.files (F k) with d:=(fl D.files (F k)).d ++ t }) j).s = (fl D.files j).s:=fun j=>by
  rw [e];split
  ·rename_i hj;rw [hj]
  ·rfl
 have eF : ∀ i,1<=i->i<=k->i ≠ k->fl (D.files.set (F k) { fl D.files (F k) with d:=(fl D.files (F k)).d ++ t }) (F i) = fl D.files (F i):=fun i h1 h2 h3=>by
  rw [e,if_neg (fun hh=>h3 (h.inj i k h1 h2 hk (Nat.le_refl _) hh))]
 have ek : fl (D.files.set (F k) { fl D.files (F k) with d:=(fl D.files (F k)).d ++ t }) (F k) = { fl D.files (F k) with d:=(fl D.files (F k)).d ++ t }:=by rw [e,if_pos rfl]
 have bsa : bs ((fl D.files (F k)).d ++ t) = bs (fl D.files (F k)).d ++ bs t:=by unfold bs;simp
 refine ⟨⟨h.ak,by show k<=(D.files.set _ _).length;rw [List.length_set];exact h.kf,by show Srt D.chg.now;rw [D.chg_now];exact h.srt,by show Srt D.chg.safe;rw [D.chg_safe];exact h.srs,by show ∀ x,x ∈ D.chg.now ↔ _;rw [D.chg_now];exact h.now,by show ∀ x,x ∈ D.chg.safe ↔ _;rw [D.chg_safe];exact h.safe,D.chg_steps.trans h.steps,h.inj,fun i h1 h2=>by show _ < (D.files.set _ _).length;rw [List.length_set];exact h.lt i h1 h2,fun i h1 h2=>?_,fun i h1 h2=>?_,fun i h1 h2=>?_,fun i h1 h2=>?_,fun i h1 h2=>?_⟩,?_,fun hd hh=>?_⟩
 ·show bs (fl (D.files.set _ _) (F i)).d = encs (if i = k then B k ++ [m] else B i) ++ T i
  by_cases hi : i = k
  ·subst hi
   rw [if_pos rfl,ek,bsa,h.dat i hk (Nat.le_refl _),hT,ht,encs_app,List.append_nil,List.append_nil]
   congr 1
   show _ = encB m ++ []
   rw [List.append_nil]
  ·rw [if_neg hi,eF i h1 h2 hi];exact h.dat i h1 h2
 ·show (∀ x ∈ (if i = k then B k ++ [m] else B i),x.OK)/\_
  by_cases hi : i = k
  ·subst hi
   rw [if_pos rfl]
   refine ⟨fun x hx=>?_,(h.ok i h1 h2).2⟩
   rcases List.mem_append.1 hx with hx | hx
   ·exact (h.ok i h1 h2).1 x hx
   ·rw [List.mem_singleton.1 hx];exact hm
  ·rw [if_neg hi];exact h.ok i h1 h2
 ·show (fl (D.files.set _ _) (F i)).s = (fl (D.files.set _ _) (F i)).d.size
  rw [eF i h1 (by omega) (by omega)];exact h.syn i h1 h2
 ·show (fl (D.files.set _ _) (F i)).s<=(fl (D.files.set _ _) (F i)).d.size
  by_cases hi : i = k
  ·subst hi
   rw [ek]
   show (fl D.files (F i)).s<=((fl D.files (F i)).d ++ t).size
   rw [ByteArray.size_append]
   have:=h.syk i h1 h2;omega
  ·rw [eF i h1 h2 hi];exact h.syk i h1 h2
 ·show (fl (D.files.set _ _) (F i)).d.size<=_
  by_cases hi : i = k
  ·subst hi
   rw [ek]
   show ((fl D.files (F i)).d ++ t).size<=_
   rw [ByteArray.size_append];exact hb
  ·rw [eF i h1 h2 hi];exact h.bnd i h1 h2
 ·show (fl (D.files.set _ _) (F k)).d.size = _
  rw [ek];exact ByteArray.size_append
 ·obtain ⟨p,h1,h2,h3⟩:=hh
  have hak:=h.ak
  refine ⟨p,?_,h2,fun h4=>?_⟩
  ·rw [allB_congr (B:=fun j=>if j = k then B k ++ [m] else B j) (C:=B) (a - 1) (fun i _ hi=>if_neg (by omega))];exact h1
  ·show p<=(if a = k then B k ++ [m] else B a).length/\(encs ((if a = k then B k ++ [m] else B a).take p)).length<=(fl (D.files.set _ _) (F a)).s
   rw [es]
   obtain ⟨h5,h6⟩:=h3 h4
   by_cases hi : a = k
   ·subst hi
    rw [if_pos rfl]
    exact ⟨by simp;omega,by rw [List.take_append_of_le_length h5];exact h6⟩
   ·rw [if_neg hi];exact ⟨h5,h6⟩
end Go.Proofs.YtilkdeghknjjhaaGreatDoor
namespace Go.Proofs.YtilkdeghknjjhaaGreatDoor
open Go.RowKit M
variable {k a : Nat}
def Fl.cutTo (x : Fl) (m : Nat) : Fl:=⟨x.d.extract 0 m,m⟩
def Fl.left (x : Fl) (keep : List Int) (i : Nat) : Nat:=x.s + (pickK keep i ((x.d.size : Int) - (x.s : Int) + 1)).toNat
def crF (files : List Fl) (l : List Nm) (keep : List Int) : Nat->List Fl
 | 0=>files
 | i + 1=>(crF files l keep i).set (nm l i).f ((fl (crF files l keep i) (nm l i).f).cutTo ((fl (crF files l keep i) (nm l i).f).left keep (i + 1)))
def Stp.z : Stp:=⟨0,ByteArray.empty,ByteArray.empty,0⟩
def stp (l : List Stp) (i : Nat) : Stp:=l.getD i Stp.z
def crN (safe : List Nm) (steps : List Stp) : Nat->List Nm
 | 0=>safe
 | i + 1=>doS (crN safe steps i) (stp steps i)
def Dk.kept (D : Dk) (keep : List Int) : Nat:=(pickK keep 0 ((D.steps.length : Int) + 1)).toNat
def Dk.crash (D : Dk) (keep : List Int) : Dk :=
 { D with files:=crF D.files (crN D.safe D.steps (D.kept keep)) keep (crN D.safe D.steps (D.kept keep)).length,now:=crN D.safe D.steps (D.kept keep),safe:=crN D.safe D.steps (D.kept keep),steps:=[],wait:=-1,life:=-1 }
theorem Dk.kept_le (D : Dk) (keep : List Int) : D.kept keep<=D.steps.length:=by
 have:=pickK_lt keep 0 (n:=(D.steps.length : Int) + 1) (by omega)
 unfold Dk.kept;omega
theorem Fl.left_le (x : Fl) (h : x.s<=x.d.size) (keep : List Int) (i : Nat) : x.s<=x.left keep i/\x.left keep i<=x.d.size:=by
 have:=pickK_lt keep i (n:=(x.d.size : Int) - (x.s : Int) + 1) (by omega)
 unfold Fl.left;omega
theorem crF_at {files : List Fl} {l : List Nm} {keep : List Int} (hlt : ∀ x ∈ l,x.f < files.length) (hin : ∀ i j,i < l.length->j < l.length->(nm l i).f = (nm l j).f->i = j) : ∀ i,i<=l.length ->
  (crF files l keep i).length = files.length/\(∀ j,j < i->fl (crF files l keep i) (nm l j).f = (fl files (nm l j).f).cutTo ((fl files (nm l j).f).left keep (j + 1)))/\(∀ f,(∀ j,j < i->(nm l j).f ≠ f)->fl (crF files l keep i) f = fl files f)
 | 0,_=>⟨rfl,fun j hj=>absurd hj (Nat.not_lt_zero j),fun f _=>rfl⟩
 | i + 1,h=>by
  obtain ⟨h1,h2,h3⟩:=crF_at hlt hin i (by omega)
  have hl : (nm l i).f < files.length:=by rw [nm_get l i (by omega)];exact hlt _ (List.getElem_mem _)
  have e0 : fl (crF files l keep i) (nm l i).f = fl files (nm l i).f:=h3 _ (fun j hj he=>by have:=hin j i (by omega) (by omega) he;omega)
  have e : crF files l keep (i + 1) = (crF files l keep i).set (nm l i).f ((fl files (nm l i).f).cutTo ((fl files (nm l i).f).left keep (i + 1))):=by
   show (crF files l keep i).set _ ((fl (crF files l keep i) (nm l i).f).cutTo ((fl (crF files l keep i) (nm l i).f).left keep (i + 1))) = _
   rw [e0]
  refine ⟨by rw [e,List.length_set,h1],fun j hj=>?_,fun f hf=>?_⟩
  ·rw [e,fl_set (by omega)]
   by_cases hji : j = i
   ·subst hji;rw [if_pos rfl]
   ·rw [if_neg (fun he=>hji (hin j i (by omega) (by omega) he))];exact h2 j (by omega)
  ·rw [e,fl_set (by omega),if_neg (fun he=>hf i (by omega) he.symm)]
   exact h3 f (fun j hj=>hf j (by omega))
theorem Files.crN {D : Dk} {F : Nat->Nat} {B : Nat->List Mt} {T : Nat->Bs} (h : Files D k a F B T) (hk : k<=1000000000) : ∀ n,n<=k - a ->
  Srt (crN D.safe D.steps n)/\(crN D.safe D.steps n).length = D.safe.length + n/\∀ x,x ∈ crN D.safe D.steps n ↔ ∃ i,1<=i/\i<=a + n/\x = ⟨fnm i,F i⟩
 | 0,_=>⟨h.srs,rfl,fun x=>h.safe x⟩
 | n + 1,hn=>by
  obtain ⟨h1,h0,h2⟩:=Files.crN h hk n (by omega)
  have hak:=h.ak
  have hs : stp D.steps n = ⟨1,ByteArray.empty,fnm (a + 1 + n),F (a + 1 + n)⟩:=by
   unfold stp
   rw [h.steps,List.getD_eq_getElem?_getD,List.getElem?_map,List.getElem?_range (by omega)]
   rfl
  have hno : ∀ x ∈ Go.Proofs.YtilkdeghknjjhaaGreatDoor.crN D.safe D.steps n,x.n ≠ fnm (a + 1 + n):=fun x hx e=>by
   obtain ⟨i,i1,i2,rfl⟩:=(h2 x).1 hx
   have:=fnm_inj (by omega) (by omega) e
   omega
  have hnt : there (Go.Proofs.YtilkdeghknjjhaaGreatDoor.crN D.safe D.steps n) (fnm (a + 1 + n)) = false:=by
   cases ht : there (Go.Proofs.YtilkdeghknjjhaaGreatDoor.crN D.safe D.steps n) (fnm (a + 1 + n))
   ·rfl
   ·obtain ⟨x,hx,he⟩:=(there_iff h1 _).1 ht
    exact absurd he (hno x hx)
  have e : Go.Proofs.YtilkdeghknjjhaaGreatDoor.crN D.safe D.steps (n + 1) = insN (Go.Proofs.YtilkdeghknjjhaaGreatDoor.crN D.safe D.steps n) ⟨fnm (a + 1 + n),F (a + 1 + n)⟩:=by
   show doS (Go.Proofs.YtilkdeghknjjhaaGreatDoor.crN D.safe D.steps n) (stp D.steps n) = _
   rw [hs]
   exact doS_ins (s:=⟨1,ByteArray.empty,fnm (a + 1 + n),F (a + 1 + n)⟩) rfl (fun x hx=>ne_toList (fun e=>by obtain ⟨i,_,_,rfl⟩:=(h2 x).1 hx;exact fnm_ne i e)) (fun x hx=>ne_toList (hno x hx))
  rw [e]
  refine ⟨srt_ins h1 hnt,by rw [insN_len,h0];omega,fun x=>?_⟩
  rw [mem_ins,h2]
  constructor
  ·rintro (rfl | ⟨i,i1,i2,rfl⟩)
   ·exact ⟨a + 1 + n,by omega,by omega,rfl⟩
   ·exact ⟨i,i1,by omega,rfl⟩
  ·rintro ⟨i,i1,i2,rfl⟩
   by_cases hi : i = a + 1 + n
   ·subst hi;exact .inl rfl
   ·exact .inr ⟨i,i1,by omega,rfl⟩
theorem extract_all (d : ByteArray) : d.extract 0 d.size = d:=by simp
theorem bs_extract0 (d : ByteArray) (m : Nat) : bs (d.extract 0 m) = (bs d).take m:=by
 unfold bs;simp [ByteArray.data_extract,List.extract]
theorem cutTo_same {x : Fl} (h : x.s = x.d.size) {m : Nat} (h1 : x.s<=m) (h2 : m<=x.d.size) : x.cutTo m = x:=by
 have : m = x.d.size:=by omega
 subst this
 unfold Fl.cutTo
 rw [extract_all]
 cases x;simp at h ⊢;exact h.symm
theorem Files.crash {D : Dk} {hd : Nat} {F : Nat->Nat} {B : Nat->List Mt} {T : Nat->Bs} (h : Files D k a F B T) (hk : k<=1000000000) (hs : Sure D a F B hd) (keep : List Int) :
  ∃ k' B' T',Files (D.crash keep) k' k' F B' T'/\allB B' k' <+: allB B k/\hd<=(allB B' k').length/\(1<=k'->(fl (D.crash keep).files (F k')).s = (fl (D.crash keep).files (F k')).d.size)/\k'<=k:=by
 have hak:=h.ak
 have hn:=D.kept_le keep
 rw [h.steps,List.length_map,List.length_range] at hn
 obtain ⟨n1,n0,n2⟩:=h.crN hk _ hn
 obtain ⟨n,hnn⟩ : ∃ n,D.kept keep = n:=⟨_,rfl⟩
 obtain ⟨l,hl⟩ : ∃ l,Go.Proofs.YtilkdeghknjjhaaGreatDoor.crN D.safe D.steps n = l:=⟨_,rfl⟩
 rw [hnn] at hn n0 n1 n2
 rw [hl] at n0 n1 n2
 have hlt : ∀ x ∈ l,x.f < D.files.length:=fun x hx=>by
  obtain ⟨i,i1,i2,rfl⟩:=(n2 x).1 hx
  exact h.lt i i1 (by omega)
 have hin : ∀ i j,i < l.length->j < l.length->(nm l i).f = (nm l j).f->i = j:=fun i j hi hj he=>by
  obtain ⟨p,p1,p2,pe⟩:=(n2 (nm l i)).1 (by rw [nm_get l i hi];exact List.getElem_mem _)
  obtain ⟨q,q1,q2,qe⟩:=(n2 (nm l j)).1 (by rw [nm_get l j hj];exact List.getElem_mem _)
  rw [pe,qe] at he
  have hpq:=h.inj p q p1 (by omega) q1 (by omega) he
  subst hpq
  rcases Nat.lt_trichotomy i j with hij | hij | hij
  ·have:=srt_lt n1 hij hj
   rw [pe,qe,bl_irr] at this;cases this
  ·exact hij
  ·have:=srt_lt n1 hij hi
   rw [pe,qe,bl_irr] at this;cases this
 obtain ⟨c1,c2,c3⟩:=crF_at (keep:=keep) hlt hin l.length (Nat.le_refl _)
 have hcr : D.crash keep = { D with files:=crF D.files l keep l.length,now:=l,safe:=l,steps:=[],wait:=-1,life:=-1 }:=by
  unfold Dk.crash;rw [hnn,hl]
 rw [hcr]
 obtain ⟨G,hG⟩ : ∃ G,crF D.files l keep l.length = G:=⟨_,rfl⟩
 rw [hG] at c1 c2 c3
 rw [hG]
 -- each file
 have hf : ∀ i,1<=i->i<=a + n->∃ m,fl G (F i) = (fl D.files (F i)).cutTo m/\(fl D.files (F i)).s<=m/\m<=(fl D.files (F i)).d.size:=fun i i1 i2=>by
  obtain ⟨j,hj,hje⟩:=List.getElem_of_mem ((n2 ⟨fnm i,F i⟩).2 ⟨i,i1,i2,rfl⟩)
  have e1:=c2 j hj
  rw [nm_get l j hj,hje] at e1
  exact ⟨_,e1,Fl.left_le _ (h.syk i i1 (by omega)) keep (j + 1)⟩
 have hlow : ∀ i,1<=i->i < a + n->fl G (F i) = fl D.files (F i):=fun i i1 i2=>by
  obtain ⟨m,e,m1,m2⟩:=hf i i1 (by omega)
  rw [e,cutTo_same (h.syn i i1 (by omega)) m1 m2]
 by_cases h0 : a + n = 0
 ·obtain ⟨p,p1,p2,p3⟩:=hs
  have ha0 : a = 0:=by omega
  have hp0:=p2 ha0
  subst ha0
  have h01 : hd<=0:=by
   have h5 : (allB B (0 - 1)).length = 0:=rfl
   omega
  have hmem : ∀ x,x ∈ l ↔ ∃ i,1<=i/\i<=0/\x = ⟨fnm i,F i⟩:=fun x=>by
   rw [n2 x,h0]
  exact ⟨0,B,T,⟨Nat.le_refl _,Nat.zero_le _,n1,n1,hmem,hmem,rfl,fun i j h1 h2=>by omega,fun i h1 h2=>by omega,fun i h1 h2=>by omega,fun i h1 h2=>by omega,fun i h1 h2=>by omega,fun i h1 h2=>by omega,fun i h1 h2=>by omega⟩,allB_prefix B k 0 (by omega),by show hd<=0;omega,fun h1=>by omega,by omega⟩
 obtain ⟨K,hK⟩ : ∃ K,a + n = K:=⟨_,rfl⟩
 rw [hK] at hf hlow n2 h0
 have hKk : K<=k:=by omega
 obtain ⟨m,em,m1,m2⟩:=hf K (by omega) (Nat.le_refl _)
 obtain ⟨p,t',p1,p2,p3,p4⟩:=cut_encs (B K) (T K) m (h.ok K (by omega) hKk).1 (h.ok K (by omega) hKk).2
 have hms : (fl G (F K)).d.size = m:=by
  rw [em];unfold Fl.cutTo
  show ((fl D.files (F K)).d.extract 0 m).size = m
  rw [ByteArray.size_extract];omega
 have hss : (fl G (F K)).s = m:=by rw [em];rfl
 have hdat : bs (fl G (F K)).d = encs ((B K).take p) ++ t':=by
  rw [em];unfold Fl.cutTo
  show bs ((fl D.files (F K)).d.extract 0 m) = _
  rw [bs_extract0,h.dat K (by omega) hKk,p3]
 have hB1 : allB (fun j=>if j = K then (B K).take p else B j) (K - 1) = allB B (K - 1):=allB_congr _ (fun i _ hi=>if_neg (by omega))
 have hBK : allB (fun j=>if j = K then (B K).take p else B j) K = allB B (K - 1) ++ (B K).take p:=by
  cases K with
  | zero=>exact absurd rfl h0
  | succ K =>
   show allB _ K ++ (if K + 1 = K + 1 then _ else _) = _
   rw [if_pos rfl]
   have : allB (fun j=>if j = K + 1 then (B (K + 1)).take p else B j) K = allB B K:=hB1
   rw [this];rfl
 have hBk : allB B K = allB B (K - 1) ++ B K:=by
  cases K with
  | zero=>exact absurd rfl h0
  | succ K=>rfl
 refine ⟨K,fun j=>if j = K then (B K).take p else B j,fun j=>if j = K then t' else T j,⟨Nat.le_refl _,by show K<=G.length;rw [c1];have:=h.kf;omega,n1,n1,n2,n2,by show ([] : List Stp) = _;simp,fun i j i1 i2 j1 j2 he=>h.inj i j i1 (by omega) j1 (by omega) he,fun i i1 i2=>by show F i < G.length;rw [c1];exact h.lt i i1 (by omega),fun i i1 i2=>?_,fun i i1 i2=>?_,fun i i1 i2=>?_,fun i i1 i2=>?_,fun i i1 i2=>?_⟩,?_,?_,fun _=>by show (fl G (F K)).s = (fl G (F K)).d.size;rw [hms,hss],hKk⟩
 ·show bs (fl G (F i)).d = encs (if i = K then _ else B i) ++ (if i = K then t' else T i)
  by_cases hi : i = K
  ·subst hi;rw [if_pos rfl,if_pos rfl];exact hdat
  ·rw [if_neg hi,if_neg hi,hlow i i1 (by omega)];exact h.dat i i1 (by omega)
 ·show (∀ x ∈ (if i = K then _ else B i),x.OK)/\Tail (if i = K then t' else T i)
  by_cases hi : i = K
  ·subst hi
   rw [if_pos rfl,if_pos rfl]
   exact ⟨fun x hx=>(h.ok i i1 hKk).1 x (List.mem_of_mem_take hx),p2⟩
  ·rw [if_neg hi,if_neg hi];exact h.ok i i1 (by omega)
 ·show (fl G (F i)).s = (fl G (F i)).d.size
  rw [hlow i i1 i2];exact h.syn i i1 (by omega)
 ·show (fl G (F i)).s<=(fl G (F i)).d.size
  by_cases hi : i = K
  ·subst hi;rw [hms,hss];exact Nat.le_refl _
  ·rw [hlow i i1 (by omega)];exact h.syk i i1 (by omega)
 ·show (fl G (F i)).d.size<=_
  by_cases hi : i = K
  ·subst hi;rw [hms];have:=h.bnd i i1 hKk;omega
  ·rw [hlow i i1 (by omega)];exact h.bnd i i1 (by omega)
 ·rw [hBK]
  refine List.IsPrefix.trans ?_ (allB_prefix B k K hKk)
  rw [hBk]
  exact (List.prefix_append_right_inj _).2 (List.take_prefix _ _)
 ·rw [hBK,List.length_append,List.length_take]
  obtain ⟨q,q1,q2,q3⟩:=hs
  have hp5 : min p (B K).length = p:=by omega
  rw [hp5]
  by_cases ha : a = K
  ·subst ha
   obtain ⟨q4,q5⟩:=q3 (by omega)
   have:=p4 q q4 (by omega)
   omega
  ·have h5 : (allB B a).length<=(allB B (K - 1)).length:=(allB_prefix B (K - 1) a (by omega)).length_le
   by_cases ha0 : a = 0
   ·have:=q2 ha0
    subst ha0
    have h6 : (allB B (0 - 1)).length = 0:=rfl
    omega
   ·have h6 : allB B a = allB B (a - 1) ++ B a:=by
     cases a with
     | zero=>exact absurd rfl ha0
     | succ a=>rfl
    obtain ⟨q4,_⟩:=q3 (by omega)
    rw [h6,List.length_append] at h5
    omega
end Go.Proofs.YtilkdeghknjjhaaGreatDoor
namespace Go.Proofs.YtilkdeghknjjhaaGreatDoor
open Go.RowKit M Go.Maps
variable {w w' : World} {s : Nat} {mg : Value}
def repRow (s : Nat) (mg : Value) : Array Value:=#[.func (.func 86) #[.pointer (some ⟨s,0,none⟩)] #[],.func (.func 87) #[.pointer (some ⟨s,0,none⟩)] #[],mg]
def RepAt (w : World) (p s : Nat) (mg : Value) : Prop:=w.heap[p]? = some (.cells (repRow s mg) 220 (0,0))
theorem RepAt.cell {p : Nat} (h : RepAt w p s mg) (o : Nat) : w.cell? ⟨p,o,none⟩ = (repRow s mg)[o]?:=cell_of_row _ _ _ _ _ _ h
theorem RepAt.frozen {p : Nat} (h : RepAt w p s mg) (o : Nat) : w.frozen? ⟨p,o,none⟩ = false:=frozen_of_row _ _ _ _ _ h
theorem RepAt.set {p : Nat} (h : RepAt w p s mg) (u : Value) : RepAt (w.setCell ⟨p,2,none⟩ u) p s u:=heap_setCell_self h 2 _
theorem RepAt.below {p : Nat} (h : RepAt w p s mg) (b : Below w.heap.size w w') : RepAt w' p s mg:=heap_later b h
theorem RepAt.tr {X : Nat->Prop} {p : Nat} (h : RepAt w p s mg) (b : Tr X w w') (hz : ¬ X p) : RepAt w' p s mg:=b.heap h hz
noncomputable def recF (S : St) (R : Mt × Rr) : Bool × St:=if R.2.s = true then (false,S) else redoF S R.1
def Zr (Y : Nat->Prop) (g p : Nat) : Nat->Prop:=fun k=>k = g\/k = p\/Y k
theorem RdrAt.setO {g p o : Nat} {t : ByteArray} {r : Rr} (h : RdrAt w g t r) (hg : g ≠ p) (u : Value) : RdrAt (w.setCell ⟨p,o,none⟩ u) g t r:=by
 unfold RdrAt at h ⊢
 rw [Below.heap_setCell _ _ _ _ hg];exact h
theorem record_any (Y : Nat->Prop) (g p s : Nat) (dv jv mv mg : Value) (n : Nat) (S : St) (t : ByteArray) (r : Rr) (gone : Bool) (w : World) (h : StIn Y w s dv jv mv n S) (hr : RdrAt w g t r) (hp : RepAt w p s mg) (hf : Fits t r) (hg : ¬ Y g) (hpY : ¬ Y p) (hgp : g ≠ p) (hgs : g < w.heap.size) (hps : p < w.heap.size)
  (hm : (rlen (bs t) r).1 = if gone = true then 2 else 1) (hn : n < 1000000000000) (hc0 : 0<=S.cnt) (hc1 : S.cnt<=4611686018427387904) :
  Calls Tryz.prog 232 #[.pointer (some ⟨p,0,none⟩),.pointer (some ⟨g,0,none⟩)] w fun e w'=>e = .returned (.bool (recF S (rmut (bs t) (rlen (bs t) r).2 gone)).1)/\RdrAt w' g t (rmut (bs t) (rlen (bs t) r).2 gone).2/\RepAt w' p s (.pointer none) /\
   (∃ mv',StIn (Yn Y w.heap.size w'.heap.size) w' s dv jv mv' (n + 1) (recF S (rmut (bs t) (rlen (bs t) r).2 gone)).2)/\Tr (Zr Y g p) w w':=by
 have hL:=length_any g t r w hr hf
 rw [hm] at hL
 obtain ⟨r1,hr1⟩ : ∃ q,(rlen (bs t) r).2 = q:=⟨_,rfl⟩
 have hf1 : Fits t r1:=by rw [<- hr1];exact rlen_fits hf
 have HM : Hid (∀ X,RdrAt X g t r1->Calls Tryz.prog 264 #[.pointer (some ⟨g,0,none⟩),.bool gone] X fun e w'=>∃ vc,e = .returned (.agg #[.bool gone,.int .i64 (rmut (bs t) r1 gone).1.node,.int .i64 (rmut (bs t) r1 gone).1.count,.string (rmut (bs t) r1 gone).1.k,vc,.string (rmut (bs t) r1 gone).1.v]) /\
   w'.ownsRow X.heap.size 183 2 vc (rmut (bs t) r1 gone).1.c.length (cellsE (rmut (bs t) r1 gone).1.c)/\RdrAt w' g t (rmut (bs t) r1 gone).2/\Tr (One g) X w'):=fun X hX=>mutation_any g t r1 gone X hX hf1
 have hkk : (rmut (bs t) r1 gone).1.k.size<=1000000:=by
  have:=rwords_len (bs t) (rclk (bs t) (rdot (bs t) r1).2).2
  show (ba _).size<=_
  rw [ba_size];omega
 have HRd : Hid (∀ X vc Y' mv',StIn Y' X s dv jv mv' n S->Rd X vc (rmut (bs t) r1 gone).1.c->Calls Tryz.prog 86 #[.pointer (some ⟨s,0,none⟩),mtV (rmut (bs t) r1 gone).1 vc] X fun e w'=>e = .returned (.bool (redoF S (rmut (bs t) r1 gone).1).1)/\(∃ mv',StIn (Yn Y' X.heap.size w'.heap.size) w' s dv jv mv' (n + 1) (redoF S (rmut (bs t) r1 gone).1).2)/\Tr Y' X w') :=
  fun X vc Y' mv' hX hvc=>redo_any Y' s dv jv mv' n S _ vc X hX hvc hkk hn hc0 hc1
 have HF : Hid (recF S (rmut (bs t) r1 gone) = if (rmut (bs t) r1 gone).2.s = true then (false,S) else redoF S (rmut (bs t) r1 gone).1):=rfl
 have HD : Hid ((rmut (bs t) r1 gone).1.del = gone):=rfl
 rw [hr1]
 obtain ⟨⟨M,r2⟩,hR⟩ : ∃ q,rmut (bs t) r1 gone = q:=⟨_,rfl⟩
 rw [hR] at HM HRd HF HD ⊢
 obtain ⟨RF,hRF⟩ : ∃ q,recF S (M,r2) = q:=⟨_,rfl⟩
 obtain ⟨RD,hRD⟩ : ∃ q,redoF S M = q:=⟨_,rfl⟩
 rw [hRF] at HF ⊢
 simp only at HM HRd HF HD
 rw [hRD] at HRd HF
 rw [hr1] at hL
 have H0 : Hid (StIn Y w s dv jv mv n S/\RepAt w p s mg):=⟨h,hp⟩
 have hpg : ¬ One g p:=fun e=>hgp (Eq.symm e)
 clear hR hRF hRD hr1 hf1 hkk hm hf h hp hr
 cases gone
 ·skip
  go_enter Tryz.func232,Tryz.ntmps232
  go_wp2_with fail
  refine hL.mono ?_
  rintro e w1 ⟨rfl,h1,t1⟩
  have hS1 : StIn Y w1 s dv jv mv n S:=H0.out.1.tr t1 (fun k hk (e : k = g)=>hg (e ▸ hk))
  have hP1 : RepAt w1 p s mg:=H0.out.2.tr t1 hpg
  have fz:=hP1.frozen
  have hP1c : w1.cell? ⟨p,2,none⟩ = some mg:=(hP1.cell 2).trans rfl
  obtain ⟨W1,hW1,HR1,HS1,HP1,HT1⟩ : ∃ W1,w1.setCell ⟨p,2,none⟩ (.pointer none) = W1/\RdrAt W1 g t r1/\Hid (StIn Y W1 s dv jv mv n S)/\Hid (RepAt W1 p s (.pointer none))/\Hid (Tr (Zr Y g p) w W1) :=
   ⟨_,rfl,h1.setO hgp _,hS1.tr ((Tr.refl (One p) w1).set1 2 _) (fun k hk (e : k = p)=>hpY (e ▸ hk)),hP1.set _,(t1.mono fun k _ (e : k = g)=>.inl e).trans ((Tr.refl (Zr Y g p) w1).setCell (p:=⟨p,2,none⟩) (.inr (.inl rfl)) _)⟩
  clear hS1 hP1 h1 t1
  go_upto_region 6 with (fail)
  clear hW1 fz hP1c
  go_wp2_with fail
  refine (HM.out W1 HR1).mono ?_
  rintro e w2 ⟨vc,rfl,ho,h2,t2⟩
  obtain ⟨ac,cc,hvc⟩:=own_shape ho
  subst hvc
  obtain ⟨Z2,hZ2,HB2,HS2,HR2,HP2,HT2,Hrow,HCv⟩ : ∃ Z2,w2.alloc (.cells #[.bool false,.int .i64 M.node,.int .i64 M.count,.string M.k,.slice ac M.c.length cc,.string M.v] 111) = Z2/\Hid (w2.heap.size < Z2.heap.size/\w.heap.size<=w2.heap.size)/\Hid (StIn Y Z2 s dv jv mv n S)/\Hid (RdrAt Z2 g t r2)/\Hid (RepAt Z2 p s (.pointer none))/\Hid (Tr (Zr Y g p) w Z2) /\
    Z2.heap[w2.heap.size]? = some (.cells #[.bool false,.int .i64 M.node,.int .i64 M.count,.string M.k,.slice ac M.c.length cc,.string M.v] 111 (0,0))/\Hid (Rd Z2 (.slice ac M.c.length cc) M.c):=by
   refine ⟨_,rfl,⟨?_,?_⟩,?_,?_,?_,?_,heap_alloc_new w2 _,(Rd.own ho rfl).below (belowA (Below.refl _ _))⟩
   ·simp
   ·exact Nat.le_trans HT1.out.size t2.size
   ·exact (HS1.out.tr t2 (fun k hk (e : k = g)=>hg (e ▸ hk))).below (belowA (Below.refl _ _))
   ·exact h2.below (belowA (Below.refl _ _))
   ·exact (HP1.out.tr t2 hpg).below (belowA (Below.refl _ _))
   ·exact (HT1.out.trans (t2.mono fun k _ (e : k = g)=>.inl e)).trans (below_tr (belowA (Below.refl _ _)) _)
  go_upto_region 7 with (fail)
  clear hZ2 HR1 HM hL ho h2 t2 HS1 HP1 HT1
  have c20 : Z2.cell? ⟨g,2,none⟩ = some (.bool r2.s):=(HR2.out.cell 2).trans rfl
  have c0 : Z2.cell? ⟨p,0,none⟩ = some (.func (.func 86) #[.pointer (some ⟨s,0,none⟩)] #[]):=(HP2.out.cell 0).trans rfl
  have x0 : Z2.cell? ⟨w2.heap.size,0,none⟩ = some (.bool false):=by rw [cell_of_row _ _ _ _ _ _ Hrow];rfl
  have x1 : Z2.cell? ⟨w2.heap.size,1,none⟩ = some (.int .i64 M.node):=by rw [cell_of_row _ _ _ _ _ _ Hrow];rfl
  have x2 : Z2.cell? ⟨w2.heap.size,2,none⟩ = some (.int .i64 M.count):=by rw [cell_of_row _ _ _ _ _ _ Hrow];rfl
  have x3 : Z2.cell? ⟨w2.heap.size,3,none⟩ = some (.string M.k):=by rw [cell_of_row _ _ _ _ _ _ Hrow];rfl
  have x4 : Z2.cell? ⟨w2.heap.size,4,none⟩ = some (.slice ac M.c.length cc):=by rw [cell_of_row _ _ _ _ _ _ Hrow];rfl
  have x5 : Z2.cell? ⟨w2.heap.size,5,none⟩ = some (.string M.v):=by rw [cell_of_row _ _ _ _ _ _ Hrow];rfl
  cases hs : r2.s
  ·have hRedo:=HRd.out Z2.drew (.slice ac M.c.length cc) Y mv (HS2.out.below (Below.drew (Below.refl _ _))) (HCv.out.below (Below.drew (Below.refl _ _)))
   have HFe : Hid (RF = RD):=by show _ = _;rw [HF.out,hs];rfl
   unfold mtV at hRedo
   rw [HD.out] at hRedo
   rw [hs] at c20
   have HX : Hid (∀ X,Tr Y Z2.drew X->X.cell? ⟨g,2,none⟩ = some (.bool false)/\X.cell? ⟨p,0,none⟩ = some (.func (.func 86) #[.pointer (some ⟨s,0,none⟩)] #[])/\X.cell? ⟨w2.heap.size,0,none⟩ = some (.bool false)/\X.cell? ⟨w2.heap.size,1,none⟩ = some (.int .i64 M.node)/\X.cell? ⟨w2.heap.size,2,none⟩ = some (.int .i64 M.count)/\X.cell? ⟨w2.heap.size,3,none⟩ = some (.string M.k)/\X.cell? ⟨w2.heap.size,4,none⟩ = some (.slice ac M.c.length cc)/\X.cell? ⟨w2.heap.size,5,none⟩ = some (.string M.v)):=fun X tX=>by
    have hnY : ¬ Y w2.heap.size:=fun hy=>by have:=H0.out.1.lt _ hy;have:=HB2.out;omega
    exact ⟨cell_tr tX c20 hg,cell_tr tX c0 hpY,cell_tr tX x0 hnY,cell_tr tX x1 hnY,cell_tr tX x2 hnY,cell_tr tX x3 hnY,cell_tr tX x4 hnY,cell_tr tX x5 hnY⟩
   have HEnd : Hid (∀ X mv',StIn (Yn Y Z2.drew.heap.size X.heap.size) X s dv jv mv' (n + 1) RD.2->Tr Y Z2.drew X->RdrAt X g t r2/\RepAt X p s (.pointer none)/\(∃ mv',StIn (Yn Y w.heap.size X.heap.size) X s dv jv mv' (n + 1) RD.2)/\Tr (Zr Y g p) w X):=fun X mv' hX tX=>by
    have ts : w.heap.size<=Z2.drew.heap.size:=HT2.out.size
    refine ⟨(HR2.out.below (Below.drew (Below.refl _ _))).tr tX hg,(HP2.out.below (Below.drew (Below.refl _ _))).tr tX hpY,⟨mv',hX.zone (fun i hi=>?_) (fun i hi=>?_)⟩,(HT2.out.drew).trans (tX.mono fun k _ hy=>.inr (.inr hy))⟩
    ·rcases hi with hi | hi
     ·exact .inl hi
     ·exact .inr ⟨by omega,hi.2⟩
    ·rcases hi with hi | hi
     ·exact Nat.lt_of_lt_of_le (H0.out.1.lt i hi) (Nat.le_trans ts tX.size)
     ·exact hi.2
   clear hs Hrow HRd
   go_region_held3 (fun w'=>w'.cell? ⟨g,2,none⟩ = some (.bool false)/\w'.cell? ⟨p,0,none⟩ = some (.func (.func 86) #[.pointer (some ⟨s,0,none⟩)] #[])/\w'.cell? ⟨w2.heap.size,0,none⟩ = some (.bool false)/\w'.cell? ⟨w2.heap.size,1,none⟩ = some (.int .i64 M.node)/\w'.cell? ⟨w2.heap.size,2,none⟩ = some (.int .i64 M.count)/\w'.cell? ⟨w2.heap.size,3,none⟩ = some (.string M.k)/\w'.cell? ⟨w2.heap.size,4,none⟩ = some (.slice ac M.c.length cc)/\w'.cell? ⟨w2.heap.size,5,none⟩ = some (.string M.v))
    (first | exact ⟨c20,c0,x0,x1,x2,x3,x4,x5⟩ | assumption)
    (first
     | ((go_at_call 86;refine hRedo.mono ?_;rintro e w3 ⟨rfl,⟨mv',h3⟩,t3⟩;have hkk:=HX.out w3 t3)))
   all_goals
    go_wp2
    go_ret
    obtain ⟨e1,e2,e3,e4⟩:=HEnd.out _ _ h3 t3
    exact ⟨by rw [HFe.out];rfl,e1,e2,by rw [HFe.out];exact e3,e4⟩
  ·have HFe : Hid (RF = (false,S)):=by show _ = _;rw [HF.out,hs];rfl
   rw [hs] at c20
   clear hs Hrow HRd
   go_quiet (fail)
   go_wp2
   go_ret
   have hbq:=below_drewN (Below.refl Z2.heap.size Z2) nq
   have ts : w.heap.size<=Z2.heap.size:=HT2.out.size
   have hq:=(HS2.out.below hbq).more (Nat.le_succ n)
   refine ⟨by rw [HFe.out];rfl,HR2.out.below hbq,HP2.out.below hbq,⟨mv,?_⟩,HT2.out.trans (below_tr hbq _)⟩
   rw [HFe.out]
   exact hq.wide w.heap.size
 ·skip
  go_enter Tryz.func232,Tryz.ntmps232
  go_wp2_with fail
  refine hL.mono ?_
  rintro e w1 ⟨rfl,h1,t1⟩
  have hS1 : StIn Y w1 s dv jv mv n S:=H0.out.1.tr t1 (fun k hk (e : k = g)=>hg (e ▸ hk))
  have hP1 : RepAt w1 p s mg:=H0.out.2.tr t1 hpg
  have fz:=hP1.frozen
  have hP1c : w1.cell? ⟨p,2,none⟩ = some mg:=(hP1.cell 2).trans rfl
  obtain ⟨W1,hW1,HR1,HS1,HP1,HT1⟩ : ∃ W1,w1.setCell ⟨p,2,none⟩ (.pointer none) = W1/\RdrAt W1 g t r1/\Hid (StIn Y W1 s dv jv mv n S)/\Hid (RepAt W1 p s (.pointer none))/\Hid (Tr (Zr Y g p) w W1) :=
   ⟨_,rfl,h1.setO hgp _,hS1.tr ((Tr.refl (One p) w1).set1 2 _) (fun k hk (e : k = p)=>hpY (e ▸ hk)),hP1.set _,(t1.mono fun k _ (e : k = g)=>.inl e).trans ((Tr.refl (Zr Y g p) w1).setCell (p:=⟨p,2,none⟩) (.inr (.inl rfl)) _)⟩
  clear hS1 hP1 h1 t1
  go_upto_region 6 with (fail)
  clear hW1 fz hP1c
  go_wp2_with fail
  refine (HM.out W1 HR1).mono ?_
  rintro e w2 ⟨vc,rfl,ho,h2,t2⟩
  obtain ⟨ac,cc,hvc⟩:=own_shape ho
  subst hvc
  obtain ⟨Z2,hZ2,HB2,HS2,HR2,HP2,HT2,Hrow,HCv⟩ : ∃ Z2,w2.alloc (.cells #[.bool true,.int .i64 M.node,.int .i64 M.count,.string M.k,.slice ac M.c.length cc,.string M.v] 111) = Z2/\Hid (w2.heap.size < Z2.heap.size/\w.heap.size<=w2.heap.size)/\Hid (StIn Y Z2 s dv jv mv n S)/\Hid (RdrAt Z2 g t r2)/\Hid (RepAt Z2 p s (.pointer none))/\Hid (Tr (Zr Y g p) w Z2) /\
    Z2.heap[w2.heap.size]? = some (.cells #[.bool true,.int .i64 M.node,.int .i64 M.count,.string M.k,.slice ac M.c.length cc,.string M.v] 111 (0,0))/\Hid (Rd Z2 (.slice ac M.c.length cc) M.c):=by
   refine ⟨_,rfl,⟨?_,?_⟩,?_,?_,?_,?_,heap_alloc_new w2 _,(Rd.own ho rfl).below (belowA (Below.refl _ _))⟩
   ·simp
   ·exact Nat.le_trans HT1.out.size t2.size
   ·exact (HS1.out.tr t2 (fun k hk (e : k = g)=>hg (e ▸ hk))).below (belowA (Below.refl _ _))
   ·exact h2.below (belowA (Below.refl _ _))
   ·exact (HP1.out.tr t2 hpg).below (belowA (Below.refl _ _))
   ·exact (HT1.out.trans (t2.mono fun k _ (e : k = g)=>.inl e)).trans (below_tr (belowA (Below.refl _ _)) _)
  go_upto_region 7 with (fail)
  clear hZ2 HR1 HM hL ho h2 t2 HS1 HP1 HT1
  have c20 : Z2.cell? ⟨g,2,none⟩ = some (.bool r2.s):=(HR2.out.cell 2).trans rfl
  have c0 : Z2.cell? ⟨p,0,none⟩ = some (.func (.func 86) #[.pointer (some ⟨s,0,none⟩)] #[]):=(HP2.out.cell 0).trans rfl
  have x0 : Z2.cell? ⟨w2.heap.size,0,none⟩ = some (.bool true):=by rw [cell_of_row _ _ _ _ _ _ Hrow];rfl
  have x1 : Z2.cell? ⟨w2.heap.size,1,none⟩ = some (.int .i64 M.node):=by rw [cell_of_row _ _ _ _ _ _ Hrow];rfl
  have x2 : Z2.cell? ⟨w2.heap.size,2,none⟩ = some (.int .i64 M.count):=by rw [cell_of_row _ _ _ _ _ _ Hrow];rfl
  have x3 : Z2.cell? ⟨w2.heap.size,3,none⟩ = some (.string M.k):=by rw [cell_of_row _ _ _ _ _ _ Hrow];rfl
  have x4 : Z2.cell? ⟨w2.heap.size,4,none⟩ = some (.slice ac M.c.length cc):=by rw [cell_of_row _ _ _ _ _ _ Hrow];rfl
  have x5 : Z2.cell? ⟨w2.heap.size,5,none⟩ = some (.string M.v):=by rw [cell_of_row _ _ _ _ _ _ Hrow];rfl
  cases hs : r2.s
  ·have hRedo:=HRd.out Z2.drew (.slice ac M.c.length cc) Y mv (HS2.out.below (Below.drew (Below.refl _ _))) (HCv.out.below (Below.drew (Below.refl _ _)))
   have HFe : Hid (RF = RD):=by show _ = _;rw [HF.out,hs];rfl
   unfold mtV at hRedo
   rw [HD.out] at hRedo
   rw [hs] at c20
   have HX : Hid (∀ X,Tr Y Z2.drew X->X.cell? ⟨g,2,none⟩ = some (.bool false)/\X.cell? ⟨p,0,none⟩ = some (.func (.func 86) #[.pointer (some ⟨s,0,none⟩)] #[])/\X.cell? ⟨w2.heap.size,0,none⟩ = some (.bool true)/\X.cell? ⟨w2.heap.size,1,none⟩ = some (.int .i64 M.node)/\X.cell? ⟨w2.heap.size,2,none⟩ = some (.int .i64 M.count)/\X.cell? ⟨w2.heap.size,3,none⟩ = some (.string M.k)/\X.cell? ⟨w2.heap.size,4,none⟩ = some (.slice ac M.c.length cc)/\X.cell? ⟨w2.heap.size,5,none⟩ = some (.string M.v)):=fun X tX=>by
    have hnY : ¬ Y w2.heap.size:=fun hy=>by have:=H0.out.1.lt _ hy;have:=HB2.out;omega
    exact ⟨cell_tr tX c20 hg,cell_tr tX c0 hpY,cell_tr tX x0 hnY,cell_tr tX x1 hnY,cell_tr tX x2 hnY,cell_tr tX x3 hnY,cell_tr tX x4 hnY,cell_tr tX x5 hnY⟩
   have HEnd : Hid (∀ X mv',StIn (Yn Y Z2.drew.heap.size X.heap.size) X s dv jv mv' (n + 1) RD.2->Tr Y Z2.drew X->RdrAt X g t r2/\RepAt X p s (.pointer none)/\(∃ mv',StIn (Yn Y w.heap.size X.heap.size) X s dv jv mv' (n + 1) RD.2)/\Tr (Zr Y g p) w X):=fun X mv' hX tX=>by
    have ts : w.heap.size<=Z2.drew.heap.size:=HT2.out.size
    refine ⟨(HR2.out.below (Below.drew (Below.refl _ _))).tr tX hg,(HP2.out.below (Below.drew (Below.refl _ _))).tr tX hpY,⟨mv',hX.zone (fun i hi=>?_) (fun i hi=>?_)⟩,(HT2.out.drew).trans (tX.mono fun k _ hy=>.inr (.inr hy))⟩
    ·rcases hi with hi | hi
     ·exact .inl hi
     ·exact .inr ⟨by omega,hi.2⟩
    ·rcases hi with hi | hi
     ·exact Nat.lt_of_lt_of_le (H0.out.1.lt i hi) (Nat.le_trans ts tX.size)
     ·exact hi.2
   clear hs Hrow HRd
   go_region_held3 (fun w'=>w'.cell? ⟨g,2,none⟩ = some (.bool false)/\w'.cell? ⟨p,0,none⟩ = some (.func (.func 86) #[.pointer (some ⟨s,0,none⟩)] #[])/\w'.cell? ⟨w2.heap.size,0,none⟩ = some (.bool true)/\w'.cell? ⟨w2.heap.size,1,none⟩ = some (.int .i64 M.node)/\w'.cell? ⟨w2.heap.size,2,none⟩ = some (.int .i64 M.count)/\w'.cell? ⟨w2.heap.size,3,none⟩ = some (.string M.k)/\w'.cell? ⟨w2.heap.size,4,none⟩ = some (.slice ac M.c.length cc)/\w'.cell? ⟨w2.heap.size,5,none⟩ = some (.string M.v))
    (first | exact ⟨c20,c0,x0,x1,x2,x3,x4,x5⟩ | assumption)
    (first
     | ((go_at_call 86;refine hRedo.mono ?_;rintro e w3 ⟨rfl,⟨mv',h3⟩,t3⟩;have hkk:=HX.out w3 t3)))
   all_goals
    go_wp2
    go_ret
    obtain ⟨e1,e2,e3,e4⟩:=HEnd.out _ _ h3 t3
    exact ⟨by rw [HFe.out];rfl,e1,e2,by rw [HFe.out];exact e3,e4⟩
  ·have HFe : Hid (RF = (false,S)):=by show _ = _;rw [HF.out,hs];rfl
   rw [hs] at c20
   clear hs Hrow HRd
   go_quiet (fail)
   go_wp2
   go_ret
   have hbq:=below_drewN (Below.refl Z2.heap.size Z2) nq
   have ts : w.heap.size<=Z2.heap.size:=HT2.out.size
   have hq:=(HS2.out.below hbq).more (Nat.le_succ n)
   refine ⟨by rw [HFe.out];rfl,HR2.out.below hbq,HP2.out.below hbq,⟨mv,?_⟩,HT2.out.trans (below_tr hbq _)⟩
   rw [HFe.out]
   exact hq.wide w.heap.size
end Go.Proofs.YtilkdeghknjjhaaGreatDoor
