/- A part of the proof. -/
import Derived.Test.YtilkdeghknjjhaaGreatDoorPart52
set_option maxRecDepth 20000
set_option maxHeartbeats 3200000
set_option linter.unusedVariables false
namespace Go.Proofs.YtilkdeghknjjhaaGreatDoor
open Go.RowKit M Go.Maps
variable {Z Zd Zx Zm W : Nat->Prop} {w X : World} {b rem m n x q b0 b1 cn : Nat} {s : Sd} {ms fl : List Mt} {D : Dk} {L F : List MuV} {vh : Value}
theorem Chg.below {p : Nat} {j : Nat} {Y : Nat->Prop} {mv : Value} {J : Jn} {S : St} (c : Chg Z w b s ms fl rem p m Zd Zx Zm D L vh F n x j Y mv J S) (hX : Below w.heap.size w X) : Chg Z X b s ms fl rem p m Zd Zx Zm D L vh F n x j Y mv J S:=by
 have hb:=c.h.lt b c.h.zb
 exact ⟨c.h.below hX (by omega),c.o.tr c.h (below_tr hX (fun k=>w.heap.size<=k)) (fun k hk hn=>by have:=(c.h.lt k hk).2;omega) (fun k hk=>by omega)⟩
theorem Clo.below {p : Nat} (c : Clo Z w b s ms fl rem p m Zd Zx Zm D L vh F n x) (hX : Below w.heap.size w X) : Clo Z X b s ms fl rem p m Zd Zx Zm D L vh F n x:=by
 have hb:=c.h.lt b c.h.zb
 exact ⟨c.h.below hX (by omega),c.hx,c.cl,heap_later hX c.at_,c.z,c.cr⟩
theorem Clo.close {p : Nat} (c : Clo Z w b s ms fl rem p m Zd Zx Zm D L vh F n x) (hW : WoR W w q b0 b1 cn) (hd : ∀ k,Z k->¬ W k) :
  StepW W Z w q b0 b1 b rem cn 120001 (.returned (.bool true)) (w.setCell ⟨b,9,none⟩ (.bool true)):=by
 have hbx : b ≠ x:=fun e=>c.h.b2 (e ▸ c.z)
 have tb : Tr (fun k=>k = b) w (w.setCell ⟨b,9,none⟩ (.bool true)):=(Tr.refl (fun k=>k = b) w).setCell (p:=⟨b,9,none⟩) rfl _
 have hts:=tb.size
 have hsd : ({ s with cl:=true } : Sd) = s:=by
  have:=c.cl
  cases s;simp at this ⊢;exact this
 have hs : SdAt (w.setCell ⟨b,9,none⟩ (.bool true)) b s:=by
  have h0 : SdAt (w.setCell ⟨b,9,none⟩ (.bool true)) b { s with cl:=true }:=(heap_setCell_self c.h.sd 9 _).trans rfl
  rw [hsd] at h0;exact h0
 exact StepE.w ⟨rfl,tb.mono fun k _ hk=>hk ▸ c.h.zb,Z,⟨s,ms,fl,p,m,Zd,Zx,Zm,D,L,vh,F,n,⟨hs,c.h.d,c.h.mm,c.h.dk.tr tb (fun k hk e=>c.h.b1 (e ▸ hk)),(c.h.dr.less (by omega)),c.h.doc.tr tb (fun k hk e=>c.h.b3 (e ▸ hk)),.cls x c.hx c.cl (tb.heap c.at_ (fun e=>hbx e.symm)) c.z,c.h.o,c.h.zd,c.h.zx,c.h.zm,c.h.zb,c.h.a1,c.h.a2,c.h.a3,c.h.b1,c.h.b2,c.h.b3,fun k hk=>⟨(c.h.lt k hk).1,Nat.lt_of_lt_of_le (c.h.lt k hk).2 hts⟩,by have:=c.h.len;omega,by have:=c.h.nn;omega,c.h.h0,c.h.h1,c.h.u0,c.h.u1,c.h.ct⟩,fun hh=>by rw [c.cr] at hh;cases hh⟩,fun k hk=>.inl hk⟩ hW hd _
theorem step_close {P : Ending->World->Prop} (was : Bool) (r : Int) (hr : (was = false/\r = 0)\/(was = true/\r = 3)) (oo : Bool) (ok ov oc : ByteArray) (ol : Bool) (oA oB : Int) (on : Value) (hb : (if oo = true then b1 else b0) = b) (hq : Sides w q b0 b1) (HX4 : Hid (∀ X,Below w.heap.size w X->X.cell? ⟨b,4,none⟩ = some (.pointer (some ⟨x,0,none⟩))))
  (HC : Hid (∀ X,Below w.heap.size w X->Calls Tryz.prog 13 #[.pointer (some ⟨x,0,none⟩)] X fun e w1=>e = .returned (.int .i64 r)/\w1.cell? ⟨b,9,none⟩ = some (.bool was)/\(∀ o,w1.frozen? ⟨b,o,none⟩ = false)/\P (.returned (.bool true)) (w1.setCell ⟨b,9,none⟩ (.bool true)))) :
  Calls Tryz.prog 35 #[.pointer (some ⟨q,0,none⟩),.agg #[.int .i64 7,.bool oo,.string ok,.string ov,.string oc,.bool ol,.int .i64 oA,.int .i64 oB,on]] w P:=by
 obtain ⟨X,hX,HB,Hrow⟩ : ∃ X,w.alloc (.cells #[.int .i64 7,.bool oo,.string ok,.string ov,.string oc,.bool ol,.int .i64 oA,.int .i64 oB,on] 77) = X/\Hid (Below w.heap.size w X)/\Hid (OpAt X w.heap.size ⟨7,oo,ok,ov,oc,ol,oA,oB,on⟩) :=
  ⟨_,rfl,(Below.refl _ _).alloc (Nat.le_refl _) _,heap_alloc_new w _⟩
 obtain ⟨q0,q1⟩:=hq X HB.out
 obtain ⟨x0,x2,_⟩:=Hrow.out.cells
 have x1 : X.cell? ⟨w.heap.size,1,none⟩ = some (.bool oo):=by rw [cell_of_row _ _ _ _ _ _ Hrow.out];rfl
 have hx:=HX4.out X HB.out
 have Hb : Hid ((if oo = true then b1 else b0) = b):=hb
 have HC2:=HC.out X HB.out
 clear hq hb HX4 HC
 go_enter Tryz.func35,Tryz.ntmps35
 go_upto_if 14 with (fail)
 go_cut [5] from 15 to 19 (fun v5 wx=>v5 = .pointer (some ⟨b,0,none⟩)/\wx = X)
 case first =>
  cases oo
  ·have hb : b0 = b:=Hb.out
   subst hb
   go_wp2
   go_meet
   exact ⟨rfl,rfl⟩
  ·have hb : b1 = b:=Hb.out
   subst hb
   go_wp2
   go_meet
   exact ⟨rfl,rfl⟩
 case rest =>
  obtain ⟨rfl,hwc⟩:=hcut
  subst hwc
  go_wp2_with fail
  refine HC2.mono ?_
  rintro e w1 ⟨rfl,c9,fz,hP⟩
  obtain ⟨W2,hW2,HF⟩ : ∃ W2,w1.setCell ⟨b,9,none⟩ (.bool true) = W2/\Hid (P (.returned (.bool true)) W2):=⟨_,rfl,hP⟩
  clear hP HC2 hx x0 x2 x1 q0 q1 hX
  go_upto_region 29 with (fail)
  clear hW2 c9 fz
  rcases hr with ⟨rfl,rfl⟩ | ⟨rfl,rfl⟩
  ·go_wp2
   exact HF.out
  ·go_wp2
   exact HF.out
theorem step_side (hS : SdE Z w b (rem + 1)) (hW : WoR W w q b0 b1 cn) (hd : ∀ k,Z k->¬ W k) (hvs : Vars w) (hc : cn + 120001<=20000000000) (K : Int) (oo : Bool) (ok ov oc : ByteArray) (ol : Bool) (oA oB : Int) (on : Value) (keep : List Int) (hb : (if oo = true then b1 else b0) = b) (hK : K<=11)
  (hk : ok.size<=1000000000) (hv : ov.size<=1000000000) (ht : oc.size<=1000000000) (hA : oA<=9223372036854775807) (hr : RdI w on keep) (hkz : 0 < keep.length->InZ (fun k=>¬ Z k/\k < w.heap.size) on) (hk64 : In64 keep) (hkl : keep.length<=1000000000000000) :
  Calls Tryz.prog 35 #[.pointer (some ⟨q,0,none⟩),.agg #[.int .i64 K,.bool oo,.string ok,.string ov,.string oc,.bool ol,.int .i64 oA,.int .i64 oB,on]] w fun e w'=>StepW W Z w q b0 b1 b rem cn 120001 e w':=by
 obtain ⟨s,ms,fl,p,m,Zd,Zx,Zm,D,L,vh,F,n,h,hcx⟩:=hS
 have hq:=hW.sides
 have hbz:=h.lt b h.zb
 have h5 : 5<=w.heap.size:=by omega
 have hA1 : ∀ X e w',Below w.heap.size w X->StepW W Z X q b0 b1 b rem cn 120001 e w'->StepW W Z w q b0 b1 b rem cn 120001 e w':=fun X e w' hX hh=>hh.ahead (below_tr hX Z) (fun k hk=>.inl hk)
 have HP : Hid (∀ e w',StepW W Z w q b0 b1 b rem cn 120001 e w'->e = .returned (.bool true)):=fun e w' h=>h.1
 have HI : Hid (∀ X,Below w.heap.size w X->StepW W Z w q b0 b1 b rem cn 120001 (.returned (.bool true)) X):=fun X hX=>StepE.w (h.idle hX h5 hcx rfl) hW hd _
 have hX4 : ∀ X,Below w.heap.size w X->X.cell? ⟨b,4,none⟩ = some s.x:=fun X hX=>((h.sd.below hX).cell 4).trans rfl
 by_cases n8 : K = 8
 ·subst n8
  exact step_happens 8 (.inl rfl) oo ok ov oc ol oA oB on hb hq (fun X hX=>(happens_open (h.below hX h5) (hW.below hX) hd (hvs.below hX) hc oo ok ov oc ol oA oB on).mono fun e w' hh=>hA1 X e w' hX hh) HP
 by_cases n9 : K = 9
 ·subst n9
  exact step_happens 9 (.inr (.inl rfl)) oo ok ov oc ol oA oB on hb hq (fun X hX=>(happens_fail (h.below hX h5) hcx (hW.below hX) hd 9 (.inl rfl) oo ok ov oc ol oA oB on hA).mono fun e w' hh=>hA1 X e w' hX hh) HP
 by_cases n10 : K = 10
 ·subst n10
  exact step_happens 10 (.inr (.inr (.inl rfl))) oo ok ov oc ol oA oB on hb hq (fun X hX=>(happens_fail (h.below hX h5) hcx (hW.below hX) hd 10 (.inr rfl) oo ok ov oc ol oA oB on hA).mono fun e w' hh=>hA1 X e w' hX hh) HP
 by_cases n11 : K = 11
 ·subst n11
  exact step_happens 11 (.inr (.inr (.inr rfl))) oo ok ov oc ol oA oB on hb hq (fun X hX=>(happens_crash (h.below hX h5) (hW.below hX) hd (hvs.below hX) hc oo ok ov oc ol oA oB on keep (hr.below hX) (fun h0 k hk=>⟨(hkz h0 k hk).1,Nat.lt_of_lt_of_le (hkz h0 k hk).2 hX.size⟩) hk64 hkl).mono fun e w' hh=>hA1 X e w' hX hh) HP
 have n13 : ¬ K = 13:=by omega
 have n12 : ¬ K = 12:=by omega
 have hno : s.x = .pointer none->Calls Tryz.prog 35 #[.pointer (some ⟨q,0,none⟩),.agg #[.int .i64 K,.bool oo,.string ok,.string ov,.string oc,.bool ol,.int .i64 oA,.int .i64 oB,on]] w fun e w'=>StepW W Z w q b0 b1 b rem cn 120001 e w':=fun hx =>
  step_none K n8 n9 n10 n11 n13 oo ok ov oc ol oA oB on hb hq (fun X hX=>by rw [hX4 X hX,hx]) HI
 rcases h.x with hx | hg | ⟨x,hx,hcl,hat,hzx⟩ | ⟨x,j,Y,mv,J,S,o⟩
 ·exact hno hx
 ·exact hno (hcx hg)
 ·have hcr : s.cr = false:=by
   cases hh : s.cr
   ·rfl
   ·rw [hcx hh] at hx;cases hx
  have c : Clo Z w b s ms fl rem p m Zd Zx Zm D L vh F n x:=⟨h,hx,hcl,hat,hzx,hcr⟩
  have H4 : Hid (∀ X,Below w.heap.size w X->X.cell? ⟨b,4,none⟩ = some (.pointer (some ⟨x,0,none⟩))):=fun X hX=>by rw [hX4 X hX,hx]
  by_cases k1 : K = 1\/K = 3
  ·exact step_changes K k1 oo ok ov oc ol oA oB on hb hq H4 (fun X hX=>(changes_cls (c.below hX) (hW.below hX) hd K k1 oo ok ov oc ol oA oB on).mono fun e w' hh=>hA1 X e w' hX hh) HP
  by_cases k2 : K = 2
  ·exact step_get K k2 oo ok ov oc ol oA oB on hb hq H4 (fun X hX=>(get_cls (c.below hX) (hW.below hX) hd ok).mono fun e w' hh=>hA1 X e w' hX hh) HP
  by_cases k4 : K = 4
  ·subst k4
   exact step_syncs 4 rfl oo ok ov oc ol oA oB on hb hq H4 (fun X hX=>(syncs_cls (c.below hX) (hW.below hX) hd oo ok ov oc ol oA oB on).mono fun e w' hh=>hA1 X e w' hX hh) HP
  by_cases k5 : K = 5\/K = 6
  ·exact step_tells K k5 oo ok ov oc ol oA oB on hb hq H4 (fun X hX=>(tells_cls (c.below hX) (hW.below hX) hd (by omega) K k5 oo ok ov oc ol oA oB on).mono fun e w' hh=>hA1 X e w' hX hh) HP
  by_cases k7 : K = 7
  ·subst k7
   refine step_close true 3 (.inr ⟨rfl,rfl⟩) oo ok ov oc ol oA oB on hb hq H4 (fun X hX=>?_)
   have cX:=c.below hX
   refine (cl_close x X cX.at_).mono ?_
   rintro e w1 ⟨rfl,rfl⟩
   exact ⟨rfl,(cX.h.sd.cell 9).trans (congrArg (fun z=>some (Value.bool z)) hcl),cX.h.sd.frozen,hA1 _ _ _ hX (cX.close (hW.below hX) hd)⟩
  exact step_other K (by omega) k2 (by omega) k4 (by omega) (by omega) k7 n8 n9 n10 n11 n12 n13 oo ok ov oc ol oA oB on hb hq H4 HI
 ·have c : Chg Z w b s ms fl rem p m Zd Zx Zm D L vh F n x j Y mv J S:=⟨h,o⟩
  have H4 : Hid (∀ X,Below w.heap.size w X->X.cell? ⟨b,4,none⟩ = some (.pointer (some ⟨x,0,none⟩))):=fun X hX=>by rw [hX4 X hX,o.hx]
  by_cases k1 : K = 1
  ·subst k1
   exact step_changes 1 (.inl rfl) oo ok ov oc ol oA oB on hb hq H4 (fun X hX=>(changes_put (c.below hX) oo ok ov oc ol oA oB on hk hv ht).mono fun e w' hh=>hA1 X e w' hX (hh.w (hW.below hX) hd _)) HP
  by_cases k3 : K = 3
  ·subst k3
   exact step_changes 3 (.inr rfl) oo ok ov oc ol oA oB on hb hq H4 (fun X hX=>(changes_del (c.below hX) oo ok ov oc ol oA oB on hk ht).mono fun e w' hh=>hA1 X e w' hX (hh.w (hW.below hX) hd _)) HP
  by_cases k2 : K = 2
  ·exact step_get K k2 oo ok ov oc ol oA oB on hb hq H4 (fun X hX=>(get_opn W Z q b0 b1 cn b s ms fl (rem + 1) p m Zd Zx Zm D L vh F n x j Y mv J S ok X (c.below hX).h (c.below hX).o (hW.below hX) hd (by omega) (by unfold maxLen;omega)).mono fun e w' hh=>hA1 X e w' hX (hh.w (fun k hk=>Nat.lt_of_lt_of_le (h.lt k hk).2 hX.size) h.zb hd (by omega))) HP
  by_cases k4 : K = 4
  ·subst k4
   exact step_syncs 4 rfl oo ok ov oc ol oA oB on hb hq H4 (fun X hX=>(syncs_opn (c.below hX) oo ok ov oc ol oA oB on).mono fun e w' hh=>hA1 X e w' hX (hh.w (hW.below hX) hd _)) HP
  by_cases k5 : K = 5
  ·subst k5
   exact step_tells 5 (.inl rfl) oo ok ov oc ol oA oB on hb hq H4 (fun X hX=>(tells_count (c.below hX) (hW.below hX) hd oo ok ov oc ol oA oB on).mono fun e w' hh=>hA1 X e w' hX hh) HP
  by_cases k6 : K = 6
  ·subst k6
   exact step_tells 6 (.inr rfl) oo ok ov oc ol oA oB on hb hq H4 (fun X hX=>(tells_keys (c.below hX) (hW.below hX) hd (by omega) oo ok ov oc ol oA oB on).mono fun e w' hh=>hA1 X e w' hX hh) HP
  by_cases k7 : K = 7
  ·subst k7
   refine step_close false 0 (.inl ⟨rfl,rfl⟩) oo ok ov oc ol oA oB on hb hq H4 (fun X hX=>?_)
   have cX:=c.below hX
   refine (sclose_any Y x j _ mv n S X cX.o.sto.st).mono ?_
   rintro e w1 ⟨rfl,hat,t⟩
   obtain ⟨g1,g2⟩:=cX.close (hW.below hX) hd hat t
   exact ⟨rfl,(g2.cell 9).trans (congrArg (fun z=>some (Value.bool z)) o.cl),g2.frozen,hA1 _ _ _ hX g1⟩
  exact step_other K k1 k2 k3 k4 k5 k6 k7 n8 n9 n10 n11 n12 n13 oo ok ov oc ol oA oB on hb hq H4 HI
end Go.Proofs.YtilkdeghknjjhaaGreatDoor
namespace Go.Proofs.YtilkdeghknjjhaaGreatDoor
open Go.RowKit M Go.Maps
variable {w w' : World} {A b rem q b0 b1 c K : Nat} {Z W Z0 Z1 : Nat->Prop} {e : Ending}
structure OpOK (w : World) (A : Nat) (o : OpV) : Prop where
 k : o.k.size<=1000000000
 v : o.v.size<=1000000000
 c : o.c.size<=1000000000
 a : o.A<=9223372036854775807
 n : ∃ keep,RdI w o.n keep/\(0 < keep.length->InZ (fun z=>z < A) o.n)/\In64 keep/\keep.length<=1000000000000000
theorem OpOK.tr {o : OpV} (h : OpOK w A o) (t : Tr (fun k=>A<=k) w w') : OpOK w' A o:=by
 obtain ⟨keep,h1,h2,h3,h4⟩:=h.n
 exact ⟨h.k,h.v,h.c,h.a,keep,h1.tr0 t (fun h0 k hk hz=>by have:=h2 h0 k hk;have hz : A<=k:=hz;omega),h2,h3,h4⟩
structure Scr (w : World) (A : Nat) (v : Value) (os : List OpV) : Prop where
 at_ : ∃ a cap,v = .slice a os.length cap/\(0 < os.length->∃ bk off,a = some ⟨bk,off,none⟩/\bk < A/\∀ i (h : i < os.length),w.rangeAt bk (off + i * 9) os[i].row.toList)
 ok : ∀ o ∈ os,OpOK w A o
theorem Scr.tr {v : Value} {os : List OpV} (h : Scr w A v os) (t : Tr (fun k=>A<=k) w w') : Scr w' A v os:=by
 obtain ⟨a,cap,rfl,h1⟩:=h.at_
 refine ⟨⟨a,cap,rfl,fun h0=>?_⟩,fun o ho=>(h.ok o ho).tr t⟩
 obtain ⟨bk,off,rfl,hb,h2⟩:=h1 h0
 exact ⟨bk,off,rfl,hb,fun i hi j x hj=>cell_tr t (h2 i hi j x hj) (fun hz=>by have hz : A<=bk:=hz;omega)⟩
theorem SdE.less {r : Nat} (h : SdE Z w b rem) (hr : r<=rem) : SdE Z w b r:=by
 obtain ⟨s,ms,fl,p,m,Zd,Zx,Zm,D,L,vh,F,n,h,hc⟩:=h
 exact ⟨s,ms,fl,p,m,Zd,Zx,Zm,D,L,vh,F,n,h.less hr,hc⟩
theorem SdE.lt (h : SdE Z w b rem) : ∀ k,Z k->5<=k/\k < w.heap.size:=by
 obtain ⟨s,ms,fl,p,m,Zd,Zx,Zm,D,L,vh,F,n,h,hc⟩:=h
 exact h.lt
def Game (w : World) (q b0 b1 rem c A : Nat) : Prop:=∃ W Z0 Z1,WoR W w q b0 b1 c/\SdE Z0 w b0 rem/\SdE Z1 w b1 rem/\(∀ k,Z0 k->¬ W k)/\(∀ k,Z1 k->¬ W k)/\(∀ k,Z0 k->¬ Z1 k)/\Vars w/\(∀ k,W k\/Z0 k\/Z1 k->A<=k)/\A<=w.heap.size/\5<=A
def GameE (w : World) (q b0 b1 rem c K A : Nat) (e : Ending) (w' : World) : Prop:=e = .returned (.bool true)/\Tr (fun k=>A<=k) w w'/\∃ c',c'<=c + K/\Game w' q b0 b1 rem c' A
theorem StepW.game0 (h : StepW W Z0 w q b0 b1 b0 rem c K e w') (hW : WoR W w q b0 b1 c) (h0 : ∀ k,Z0 k->5<=k/\k < w.heap.size) (h1 : SdE Z1 w b1 rem) (d0 : ∀ k,Z0 k->¬ W k) (d1 : ∀ k,Z1 k->¬ W k) (d2 : ∀ k,Z0 k->¬ Z1 k) (hv : Vars w) (hA : ∀ k,W k\/Z0 k\/Z1 k->A<=k) (hAw : A<=w.heap.size) (h5 : 5<=A) : GameE w q b0 b1 rem c K A e w':=by
 obtain ⟨he,t,W',Z',c',g1,g2,g3,g4,g5,g6⟩:=h
 have hw:=hW.five
 have hl:=h1.lt
 have hx5 : ∀ k,W k\/Z0 k->5<=k:=fun k hk=>hk.elim (fun h=>(hw k h).1) (fun h=>(h0 k h).1)
 refine ⟨he,t.mono fun k _ hk=>hA k (hk.imp (fun h=>h) .inl),c',g2,W',Z',Z1,g1,g3,h1.tr t (fun k hk hh=>hh.elim (d1 k hk) (fun hz=>d2 k hz hk)) hx5,g4,fun k hk hh=>?_,fun k hk hh=>?_,hv.tr t (fun k hk hh=>by have:=hx5 k hh;omega),fun k hk=>?_,Nat.le_trans hAw t.size,h5⟩
 ·rcases g5 k hh with h | h
  ·exact d1 k hk h
  ·have:=(hl k hk).2;omega
 ·rcases g6 k hk with h | h
  ·exact d2 k h hh
  ·have:=(hl k hh).2;omega
 ·rcases hk with hk | hk | hk
  ·rcases g5 k hk with h | h
   ·exact hA k (.inl h)
   ·omega
  ·rcases g6 k hk with h | h
   ·exact hA k (.inr (.inl h))
   ·omega
  ·exact hA k (.inr (.inr hk))
theorem StepW.game1 (h : StepW W Z1 w q b0 b1 b1 rem c K e w') (hW : WoR W w q b0 b1 c) (h1 : ∀ k,Z1 k->5<=k/\k < w.heap.size) (h0 : SdE Z0 w b0 rem) (d0 : ∀ k,Z0 k->¬ W k) (d1 : ∀ k,Z1 k->¬ W k) (d2 : ∀ k,Z0 k->¬ Z1 k) (hv : Vars w) (hA : ∀ k,W k\/Z0 k\/Z1 k->A<=k) (hAw : A<=w.heap.size) (h5 : 5<=A) : GameE w q b0 b1 rem c K A e w':=by
 obtain ⟨he,t,W',Z',c',g1,g2,g3,g4,g5,g6⟩:=h
 have hw:=hW.five
 have hl:=h0.lt
 have hx5 : ∀ k,W k\/Z1 k->5<=k:=fun k hk=>hk.elim (fun h=>(hw k h).1) (fun h=>(h1 k h).1)
 refine ⟨he,t.mono fun k _ hk=>hA k (hk.imp (fun h=>h) .inr),c',g2,W',Z0,Z',g1,h0.tr t (fun k hk hh=>hh.elim (d0 k hk) (fun hz=>d2 k hk hz)) hx5,g3,fun k hk hh=>?_,g4,fun k hk hh=>?_,hv.tr t (fun k hk hh=>by have:=hx5 k hh;omega),fun k hk=>?_,Nat.le_trans hAw t.size,h5⟩
 ·rcases g5 k hh with h | h
  ·exact d0 k hk h
  ·have:=(hl k hk).2;omega
 ·rcases g6 k hh with h | h
  ·exact d2 k hk h
  ·have:=(hl k hk).2;omega
 ·rcases hk with hk | hk | hk
  ·rcases g5 k hk with h | h
   ·exact hA k (.inl h)
   ·omega
  ·exact hA k (.inr (.inl hk))
  ·rcases g6 k hk with h | h
   ·exact hA k (.inr (.inr h))
   ·omega
theorem step_game (hG : Game w q b0 b1 (rem + 1) c A) (hc : c + 120001<=20000000000) (o : OpV) (ho : OpOK w A o) (hK : o.K<=11) :
  Calls Tryz.prog 35 #[.pointer (some ⟨q,0,none⟩),.agg o.row] w fun e w'=>GameE w q b0 b1 rem c 120001 A e w':=by
 obtain ⟨W,Z0,Z1,hW,h0,h1,d0,d1,d2,hv,hA,hAw,h5⟩:=hG
 obtain ⟨keep,k1,k2,k3,k4⟩:=ho.n
 obtain ⟨K,oo,ok,ov,oc,ol,oA,oB,on⟩:=o
 cases oo
 ·refine (step_side h0 hW d0 hv hc K false ok ov oc ol oA oB on keep rfl hK ho.k ho.v ho.c ho.a k1 (fun h0' k hk=>⟨fun hz=>?_,?_⟩) k3 k4).mono ?_
  ·have h1:=hA k (.inr (.inl hz))
   have h2 : k < A:=k2 h0' k hk
   omega
  ·have h2 : k < A:=k2 h0' k hk
   omega
  ·intro e w' h
   exact h.game0 hW h0.lt (h1.less (by omega)) d0 d1 d2 hv hA hAw h5
 ·refine (step_side h1 hW d1 hv hc K true ok ov oc ol oA oB on keep rfl hK ho.k ho.v ho.c ho.a k1 (fun h0' k hk=>⟨fun hz=>?_,?_⟩) k3 k4).mono ?_
  ·have h1:=hA k (.inr (.inr hz))
   have h2 : k < A:=k2 h0' k hk
   omega
  ·have h2 : k < A:=k2 h0' k hk
   omega
  ·intro e w' h
   exact h.game1 hW h1.lt (h0.less (by omega)) d0 d1 d2 hv hA hAw h5
theorem StepW.trans {W1 : Nat->Prop} {w1 w2 : World} {c1 K2 : Nat} (h : StepW W1 Z1 w1 q b0 b1 b rem c1 K2 e w2) (t : Tr (fun k=>W k\/Z k) w w1) (hc : c1<=c + K) (h5 : ∀ k,W1 k->W k\/w.heap.size<=k) (h6 : ∀ k,Z1 k->Z k\/w.heap.size<=k) : StepW W Z w q b0 b1 b rem c (K + K2) e w2:=by
 obtain ⟨he,t2,W',Z',c',g1,g2,g3,g4,g5,g6⟩:=h
 have hs:=t.size
 refine ⟨he,t.trans' t2 fun k hk hh=>?_,W',Z',c',g1,by omega,g3,g4,fun k hk=>?_,fun k hk=>?_⟩
 ·rcases hh with hh | hh
  ·exact (h5 k hh).elim .inl (fun h=>by omega)
  ·exact (h6 k hh).elim .inr (fun h=>by omega)
 ·rcases g5 k hk with h | h
  ·exact h5 k h
  ·exact .inr (by omega)
 ·rcases g6 k hk with h | h
  ·exact h6 k h
  ·exact .inr (by omega)
end Go.Proofs.YtilkdeghknjjhaaGreatDoor
namespace Go.Proofs.YtilkdeghknjjhaaGreatDoor
open Go.RowKit M Go.Maps
variable {W Z : Nat->Prop} {w : World} {q b0 b1 b rem : Nat}
theorem StepW.less {w' : World} {r c K K2 : Nat} {e : Ending} (h : StepW W Z w q b0 b1 b rem c K e w') (hr : r<=rem) (hK : K<=K2) : StepW W Z w q b0 b1 b r c K2 e w':=by
 obtain ⟨he,t2,W',Z',c',g1,g2,g3,g4,g5,g6⟩:=h
 exact ⟨he,t2,W',Z',c',g1,by omega,g3.less hr,g4,g5,g6⟩
theorem crash_opens {cn : Nat} {s : Sd} {ms fl : List Mt} {p m : Nat} {Zd Zx Zm : Nat->Prop} {D : Dk} {L : List MuV} {vh : Value} {F : List MuV} {n : Nat} {Y : World}
  (h : SdR Z Y b s ms fl (rem + 1) p m Zd Zx Zm D L vh F n) (hW : WoR W Y q b0 b1 cn) (hd : ∀ k,Z k->¬ W k) (hvs : Vars Y) (hc : cn + 120001<=20000000000) (on : Value) (keep : List Int) (hk : RdI Y on keep) (hkz : 0 < keep.length->InZ (fun k=>¬ Z k/\k < Y.heap.size) on) (hk64 : In64 keep) (hkl : keep.length<=1000000000000000) :
  Calls Tryz.prog 16 #[.pointer (some ⟨p,0,none⟩),on] Y fun e w'=>e = .returned (.tuple #[])/\SdAt w' b s/\(∀ k,k < Y.heap.size->¬ Zd k->w'.heap[k]? = Y.heap[k]?) /\
   Calls Tryz.prog 61 #[.pointer (some ⟨q,0,none⟩),.pointer (some ⟨b,0,none⟩)] (w'.setCell ⟨b,11,none⟩ (.bool true)) fun e w2=>StepW W Z Y q b0 b1 b rem cn 120001 e w2/\∃ x,w2.cell? ⟨b,4,none⟩ = some (.pointer (some ⟨x,0,none⟩)):=by
 have hlen:=h.len
 refine (Crash_any (Zn Zd Y.heap.size) p D on keep Y (h.dk.mono fun k hk=>.inl hk) (h.dr.crash (by omega) keep).1 (fun k hk=>.inr hk) hk (fun h0 k hk2 hz=>?_) hk64 hkl).mono ?_
 ·have h1:=hkz h0 k hk2
  rcases hz with hz | hz
  ·exact h1.1 (h.zd k hz)
  ·omega
 ·rintro e w' ⟨he,hE,t⟩
  obtain ⟨g1,g2⟩:=h.crash keep hE t
  have t0 : Tr Zd Y w':=t.mono fun k hk2 hz=>hz.elim (fun h=>h) (fun h=>by omega)
  refine ⟨he,h.sd.tr t0 h.b1,fun k hk2 hz=>t0.block k hk2 hz,?_⟩
  have hWY : WoR W (w'.setCell ⟨b,11,none⟩ (.bool true)) q b0 b1 cn:=hW.tr g2 (fun k hk2 hz=>hd k hz hk2)
  have hvY : Vars (w'.setCell ⟨b,11,none⟩ (.bool true)):=hvs.tr g2 (fun k hk2 hz=>by have:=(h.lt k hz).1;omega)
  refine (opens_any W _ q b0 b1 cn b _ ms fl rem p m _ Zx Zm _ L vh F n _ g1 hWY (fun k hk2 hw=>?_) hvY hc).mono ?_
  ·rcases hk2 with hk2 | hk2
   ·exact hd k hk2 hw
   ·have:=(hW.five k hw).2;omega
  ·intro e w2 hO
   exact ⟨hO.1.ahead g2 (fun k hk2=>hk2.imp (fun h=>h) (fun h=>by omega)),hO.2 (h.dr.crash (by omega) keep).2.2⟩
theorem first_plain {P : Ending->World->Prop} {A : Nat} {vs : Value} {os : List OpV} (up : Int) (hs : Scr w A vs os) (hno : os = []\/up < 10\/∀ (h : 0 < os.length),os[0].K ≠ 10)
  (HC : Hid (Calls Tryz.prog 61 #[.pointer (some ⟨q,0,none⟩),.pointer (some ⟨b,0,none⟩)] w fun e w'=>e = .returned (.bool true)/\P (.returned (.bool true)) w'/\∃ x,w'.cell? ⟨b,4,none⟩ = some (.pointer (some ⟨x,0,none⟩)))) :
  Calls Tryz.prog 34 #[.pointer (some ⟨q,0,none⟩),.pointer (some ⟨b,0,none⟩),vs,.int .i64 up] w P:=by
 obtain ⟨a,cap,rfl,h1⟩:=hs.at_
 by_cases h0 : 0 < os.length
 ·obtain ⟨bk,off,rfl,_,hr⟩:=h1 h0
  have c0 : w.cell? ⟨bk,off,none⟩ = some (.int .i64 os[0].K):=by have:=hr 0 h0 0 _ rfl;simpa using this
  have q1 : (0 : Int) < (os.length : Int):=by omega
  obtain ⟨K,hK⟩ : ∃ K,os[0].K = K:=⟨_,rfl⟩
  rw [hK] at c0
  have hn : K ≠ 10\/up < 10:=by
   rcases hno with h | h | h
   ·rw [h] at h0;simp at h0
   ·exact .inr h
   ·exact .inl (hK ▸ h h0)
  clear h1 hr hs hno hK
  by_cases hk : K = 10
  ·have hu : ¬ 10<=up:=by rcases hn with h | h <;> omega
   subst hk
   clear hn
   go_enter Tryz.func34,Tryz.ntmps34
   go_wp2_with fail
   refine HC.out.mono ?_
   rintro e w2 ⟨rfl,hP,x,hx⟩
   have HF : Hid (P (.returned (.bool true)) w2):=hP
   clear hP
   go_wp2
   exact HF.out
  ·clear hn
   go_enter Tryz.func34,Tryz.ntmps34
   go_wp2_with fail
   refine HC.out.mono ?_
   rintro e w2 ⟨rfl,hP,x,hx⟩
   have HF : Hid (P (.returned (.bool true)) w2):=hP
   clear hP
   go_wp2
   exact HF.out
 ·have he : os.length = 0:=by omega
  rw [he]
  clear h1 hs hno
  go_enter Tryz.func34,Tryz.ntmps34
  go_wp2_with fail
  refine HC.out.mono ?_
  rintro e w2 ⟨rfl,hP,x,hx⟩
  have HF : Hid (P (.returned (.bool true)) w2):=hP
  clear hP
  go_wp2
  exact HF.out
end Go.Proofs.YtilkdeghknjjhaaGreatDoor
