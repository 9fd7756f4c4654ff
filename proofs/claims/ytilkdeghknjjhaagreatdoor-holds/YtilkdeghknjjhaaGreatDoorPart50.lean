/- A part of the proof. -/
import Derived.Test.YtilkdeghknjjhaaGreatDoorPart48
set_option maxRecDepth 20000
set_option maxHeartbeats 3200000
set_option linter.unusedVariables false
namespace Go.Proofs.YtilkdeghknjjhaaGreatDoor
open Go.RowKit M Go.Maps
variable {Z W Zd Zx Zm Y : Nat->Prop} {q b0 b1 cn b rem p m n x j : Nat} {w : World} {s : Sd} {ms fl : List Mt} {D : Dk} {L F : List MuV} {vh mv : Value} {J : Jn} {S : St}
theorem tells_count (c : Chg Z w b s ms fl rem p m Zd Zx Zm D L vh F n x j Y mv J S) (hW : WoR W w q b0 b1 cn) (hd : ∀ k,Z k->¬ W k) (oo : Bool) (ok ov oc : ByteArray) (ol : Bool) (oA oB : Int) (on : Value) :
  Calls Tryz.prog 66 #[.pointer (some ⟨q,0,none⟩),.pointer (some ⟨b,0,none⟩),.agg #[.int .i64 5,.bool oo,.string ok,.string ov,.string oc,.bool ol,.int .i64 oA,.int .i64 oB,on]] w fun e w'=>StepW W Z w q b0 b1 b rem cn 120001 e w':=by
 obtain ⟨X,hX,HB,Hrow⟩ : ∃ X,w.alloc (.cells #[.int .i64 5,.bool oo,.string ok,.string ov,.string oc,.bool ol,.int .i64 oA,.int .i64 oB,on] 77) = X/\Hid (Below w.heap.size w X)/\Hid (OpAt X w.heap.size ⟨5,oo,ok,ov,oc,ol,oA,oB,on⟩) :=
  ⟨_,rfl,(Below.refl _ _).alloc (Nat.le_refl _) _,heap_alloc_new w _⟩
 obtain ⟨_,y4,y5,y9,_,_⟩:=(c.h.sd.below HB.out).reads c.h.d c.h.mm c.o.hx c.o.cl
 obtain ⟨x0,_⟩:=Hrow.out.cells
 have hmi:=c.h.doc.mi.below HB.out
 obtain ⟨a,qq,hv,_⟩:=hmi.cells
 have hmc : X.cell? ⟨m,1,none⟩ = some vh:=by rw [cell_of_row _ _ _ _ _ _ hmi.hp];rfl
 rw [hv,c.h.doc.len.1] at hmc
 have hct:=counter_any Y x _ _ mv n S X (c.o.sto.below HB.out).st
 rw [c.o.doc.cnt] at hct
 have hb5:=c.h.lt b c.h.zb
 have HF : Hid (StepW W Z w q b0 b1 b rem cn 120001 (.returned (.bool true)) X):=StepE.w (c.h.idle HB.out (by omega) (fun hh=>by rw [c.o.cr] at hh;cases hh) rfl) hW hd _
 clear hmi hv hb5 hW hd c
 go_enter Tryz.func66,Tryz.ntmps66
 go_upto_region 1 with (fail)
 clear hX
 go_wp2_with fail
 refine hct.mono ?_
 rintro e w2 ⟨rfl,rfl⟩
 go_wp2
 go_ret
 exact HF.out
theorem ks_le {nd : Int} (hg : GoodM nd zM 0 ms) {ks : List ByteArray} (h : StKeys (runMt zM ms) ks) {ls : List ByteArray} (hl : KeysOf nd (ms.map Mt.mu) ls) : ks = ls/\ls.length<=ms.length:=⟨keys_same hg h hl,keys_len hl⟩
theorem tells_keys (c : Chg Z w b s ms fl rem p m Zd Zx Zm D L vh F n x j Y mv J S) (hW : WoR W w q b0 b1 cn) (hd : ∀ k,Z k->¬ W k) (hcn : cn<=20000000000) (oo : Bool) (ok ov oc : ByteArray) (ol : Bool) (oA oB : Int) (on : Value) :
  Calls Tryz.prog 66 #[.pointer (some ⟨q,0,none⟩),.pointer (some ⟨b,0,none⟩),.agg #[.int .i64 6,.bool oo,.string ok,.string ov,.string oc,.bool ol,.int .i64 oA,.int .i64 oB,on]] w fun e w'=>StepW W Z w q b0 b1 b rem cn 120001 e w':=by
 obtain ⟨X,hX,HB,Hrow⟩ : ∃ X,w.alloc (.cells #[.int .i64 6,.bool oo,.string ok,.string ov,.string oc,.bool ol,.int .i64 oA,.int .i64 oB,on] 77) = X/\Hid (Below w.heap.size w X)/\Hid (OpAt X w.heap.size ⟨6,oo,ok,ov,oc,ol,oA,oB,on⟩) :=
  ⟨_,rfl,(Below.refl _ _).alloc (Nat.le_refl _) _,heap_alloc_new w _⟩
 have HRd : Hid (∀ X,Below w.heap.size w X->X.cell? ⟨b,4,none⟩ = some (.pointer (some ⟨x,0,none⟩))/\X.cell? ⟨b,5,none⟩ = some (.pointer (some ⟨m,0,none⟩))/\X.cell? ⟨b,9,none⟩ = some (.bool false)):=fun X hX=>by
  obtain ⟨_,h4,h5,h9,_⟩:=(c.h.sd.below hX).reads c.h.d c.h.mm c.o.hx c.o.cl
  exact ⟨h4,h5,h9⟩
 have hnn:=c.h.nn
 have hlen:=c.h.len
 have HKe : Hid (∀ X,Below w.heap.size w X->Calls Tryz.prog 28 #[.pointer (some ⟨x,0,none⟩)] X fun e w'=>∃ v ks,e = .returned v/\StKeys (runMt zM ms) ks/\OwnX w' X.heap.size v ks/\Below X.heap.size X w'):=fun X hX=>by
  have:=skeys_any Y x _ _ mv n S X (c.o.sto.below hX).st (by omega)
  rw [c.o.doc.M] at this
  exact this
 have HRk : Hid (∀ X,Below w.heap.size w X->Calls Tryz.prog 105 #[.pointer (some ⟨m,0,none⟩)] X fun e w'=>∃ v ls,e = .returned v/\KeysOf s.n (ms.map Mt.mu) ls/\OwnX w' X.heap.size v ls/\Below X.heap.size X w'):=fun X hX=>by
  have:=refKeys_any Zm m s.n _ _ X (c.h.doc.mi.below hX) (by have:=c.h.doc.len.1;omega)
  rw [c.h.doc.me] at this
  exact this
 have hb5:=c.h.lt b c.h.zb
 have HKp : Hid (∀ X v xs,Below w.heap.size w X->OwnX X w.heap.size v xs->xs.length<=1000000->Calls Tryz.prog 107 #[.pointer (some ⟨q,0,none⟩),v] X fun e w'=>e = .returned (.tuple #[])/\StepW W Z w q b0 b1 b rem cn 120001 (.returned (.bool true)) w'):=fun X v xs hX hv hl=>by
  have hXs:=hX.size
  refine ((hW.below hX).keep (B:=w.heap.size) (A:=w.heap.size) v xs hcn hv hl (fun k hk=>?_) (by omega) hXs).mono ?_
  ·have:=(hv.lt k hk).1
   exact ⟨fun hh=>by have:=(hW.five k hh).2;omega,this⟩
  ·rintro e w' ⟨he,hw',t⟩
   have t0 : Tr (fun k=>W k\/w.heap.size<=k) w w':=(below_tr hX _).trans (t.mono fun k hk hz=>by
    rcases hz with hz | hz | hz
    ·exact .inl hz
    ·exact .inr (hv.lt k hz).1
    ·exact .inr (by omega))
   refine ⟨he,rfl,t0.mono (fun k hk hz=>?_),_,Z,_,hw',by omega,⟨_,_,_,_,_,_,_,_,_,_,_,_,_,(c.h.tr t0 (fun k hk hz=>?_) (fun k hz=>?_)).less (by omega),fun hh=>by rw [c.o.cr] at hh;cases hh⟩,fun k hk hw=>?_,fun k hk=>?_,fun k hk=>.inl hk⟩
   ·rcases hz with hz | hz
    ·exact .inl hz
    ·omega
   ·rcases hz with hz | hz
    ·exact hd k hk hz
    ·have:=(c.h.lt k hk).2;omega
   ·rcases hz with hz | hz
    ·exact (hW.five k hz).1
    ·omega
   ·have hkl:=(c.h.lt k hk).2
    rcases hw.2 with hz | hz | hz
    ·exact hd k hk hz
    ·have:=(hv.lt k hz).1;omega
    ·omega
   ·rcases hk.2 with hz | hz | hz
    ·exact .inl hz
    ·exact .inr (hv.lt k hz).1
    ·exact .inr (by omega)
 have HGd : Hid (GoodM s.n zM 0 ms):=c.o.doc.good
 have hml : ms.length<=120000:=by omega
 clear hnn hlen hb5 hW hd c
 obtain ⟨_,_,_⟩:=HRd.out X HB.out
 obtain ⟨x0,_⟩:=Hrow.out.cells
 go_enter Tryz.func66,Tryz.ntmps66
 go_upto_region 1 with (fail)
 clear hX
 go_wp2_with fail
 refine (HKe.out X HB.out).mono ?_
 rintro e w2 ⟨v,ks,rfl,hks,hov,hb2⟩
 obtain ⟨a1,q1,hvs⟩:=own_shape hov
 subst hvs
 have hb02:=belowN HB.out hb2
 obtain ⟨y4,y5,y9⟩:=HRd.out w2 hb02
 go_wp2_with fail
 refine (HRk.out w2 hb02).mono ?_
 rintro e w3 ⟨v3,ls,rfl,hls,hom,hb3⟩
 obtain ⟨heq,hkl⟩:=ks_le HGd.out hks hls
 subst heq
 obtain ⟨a3,q3,hvs⟩:=own_shape hom
 subst hvs
 have hst:=sameTexts_any _ _ _ _ ks ks w3 (own_below hov hb3) hom (by omega) (by omega)
 have HO : Hid (Below w.heap.size w w3/\OwnX w3 w.heap.size (.slice a1 ks.length q1) ks):=⟨belowN hb02 hb3,own_base (own_below hov hb3) HB.out.size⟩
 clear hks hls hov hom hb2 hb3 hb02 y4 y5 y9 HKe HRk
 go_wp2_with fail
 refine hst.mono ?_
 rintro e w4 ⟨r,rfl,hr,hb4⟩
 have hr : r = true:=by simpa using hr
 subst hr
 have hkp:=HKp.out w4 _ ks (belowN HO.out.1 hb4) (own_below HO.out.2 hb4) (by omega)
 clear hst hb4 HKp
 go_wp2_with fail
 refine hkp.mono ?_
 rintro e w5 ⟨rfl,hS⟩
 have HF : Hid (StepW W Z w q b0 b1 b rem cn 120001 (.returned (.bool true)) w5):=hS
 clear hS hkp
 go_wp2
 go_ret
 exact HF.out
end Go.Proofs.YtilkdeghknjjhaaGreatDoor
namespace Go.Proofs.YtilkdeghknjjhaaGreatDoor
open Go.RowKit M Go.Maps
variable {Z Zd Zx Zm W : Nat->Prop} {w : World} {b rem p m n x q b0 b1 cn : Nat} {s : Sd} {ms fl : List Mt} {D : Dk} {L F : List MuV} {vh : Value}
structure Clo (Z : Nat->Prop) (w : World) (b : Nat) (s : Sd) (ms fl : List Mt) (rem p m : Nat) (Zd Zx Zm : Nat->Prop) (D : Dk) (L : List MuV) (vh : Value) (F : List MuV) (n x : Nat) : Prop where
 h : SdR Z w b s ms fl (rem + 1) p m Zd Zx Zm D L vh F n
 hx : s.x = .pointer (some ⟨x,0,none⟩)
 cl : s.cl = true
 at_ : ClAt w x
 z : Zx x
 cr : s.cr = false
theorem Clo.reads (c : Clo Z w b s ms fl rem p m Zd Zx Zm D L vh F n x) (X : World) (hX : Below w.heap.size w X) :
  X.cell? ⟨b,0,none⟩ = some (.pointer (some ⟨p,0,none⟩))/\X.cell? ⟨b,4,none⟩ = some (.pointer (some ⟨x,0,none⟩))/\X.cell? ⟨b,9,none⟩ = some (.bool true)/\X.cell? ⟨b,13,none⟩ = some (.string s.ctx)/\ClAt X x/\DiskAt Zd X p D:=by
 have hs:=c.h.sd.below hX
 exact ⟨(hs.cell 0).trans (congrArg some c.h.d),(hs.cell 4).trans (congrArg some c.hx),(hs.cell 9).trans (congrArg (fun z=>some (Value.bool z)) c.cl),(hs.cell 13).trans rfl,c.at_.below hX,c.h.dk.below hX⟩
theorem Clo.idle (c : Clo Z w b s ms fl rem p m Zd Zx Zm D L vh F n x) (hW : WoR W w q b0 b1 cn) (hd : ∀ k,Z k->¬ W k) (X : World) (hX : Below w.heap.size w X) : StepW W Z w q b0 b1 b rem cn 120001 (.returned (.bool true)) X:=by
 have hb:=c.h.lt b c.h.zb
 exact StepE.w (c.h.idle hX (by omega) (fun hh=>by rw [c.cr] at hh;cases hh) rfl) hW hd _
theorem get_cls (c : Clo Z w b s ms fl rem p m Zd Zx Zm D L vh F n x) (hW : WoR W w q b0 b1 cn) (hd : ∀ k,Z k->¬ W k) (key : ByteArray) :
  Calls Tryz.prog 63 #[.pointer (some ⟨q,0,none⟩),.pointer (some ⟨b,0,none⟩),.string key] w fun e w'=>StepW W Z w q b0 b1 b rem cn 120001 e w':=by
 obtain ⟨d0,d4,d9,_,hc,hD⟩:=c.reads w (Below.refl _ _)
 have hg:=cl_get x key w hc
 have hdd:=Dead_any Zd p D w hD
 have HF : Hid (StepW W Z w q b0 b1 b rem cn 120001 (.returned (.bool true)) w):=c.idle hW hd w (Below.refl _ _)
 clear hc hD c hW hd
 go_enter Tryz.func63,Tryz.ntmps63
 go_wp2_with fail
 refine hg.mono ?_
 rintro e w1 ⟨rfl,rfl⟩
 go_wp2_with fail
 refine hdd.mono ?_
 rintro e w2 ⟨rfl,rfl⟩
 go_wp2
 go_ret
 exact HF.out
theorem syncs_cls (c : Clo Z w b s ms fl rem p m Zd Zx Zm D L vh F n x) (hW : WoR W w q b0 b1 cn) (hd : ∀ k,Z k->¬ W k) (oo : Bool) (ok ov oc : ByteArray) (ol : Bool) (oA oB : Int) (on : Value) :
  Calls Tryz.prog 65 #[.pointer (some ⟨b,0,none⟩),.agg #[.int .i64 4,.bool oo,.string ok,.string ov,.string oc,.bool ol,.int .i64 oA,.int .i64 oB,on]] w fun e w'=>StepW W Z w q b0 b1 b rem cn 120001 e w':=by
 obtain ⟨X,hX,HB,Hrow⟩ : ∃ X,w.alloc (.cells #[.int .i64 4,.bool oo,.string ok,.string ov,.string oc,.bool ol,.int .i64 oA,.int .i64 oB,on] 77) = X/\Hid (Below w.heap.size w X)/\Hid (OpAt X w.heap.size ⟨4,oo,ok,ov,oc,ol,oA,oB,on⟩) :=
  ⟨_,rfl,(Below.refl _ _).alloc (Nat.le_refl _) _,heap_alloc_new w _⟩
 have HR : Hid (∀ X,Below w.heap.size w X->_):=fun X hX=>c.reads X hX
 obtain ⟨_,_,hDI,_⟩:=c.h.dr.ex
 have HOk : Hid D.OK:=hDI.wf.ok
 have HE : Hid (∀ X,Below w.heap.size w X->StepW W Z w q b0 b1 b rem cn 120001 (.returned (.bool true)) X):=fun X hX=>c.idle hW hd X hX
 clear hDI c hW hd
 obtain ⟨d0,d4,d9,_,hc,hD⟩:=HR.out X HB.out
 have hf:=Failed_any Zd p D X hD
 have hl:=Left_any Zd p D X hD HOk.out
 clear hc hD
 go_enter Tryz.func65,Tryz.ntmps65
 go_upto_region 1 with (fail)
 clear hX
 go_wp2_with fail
 refine hf.mono ?_
 rintro e w1 ⟨rfl,rfl⟩
 go_wp2_with fail
 refine hl.mono ?_
 rintro e w2 ⟨rfl,hb2⟩
 have HB2 : Hid (Below w.heap.size w w2/\OpAt w2 w.heap.size ⟨4,oo,ok,ov,oc,ol,oA,oB,on⟩):=⟨belowN HB.out hb2,heap_later hb2 Hrow.out⟩
 clear hb2 d0 d4 d9 hf hl
 obtain ⟨d0,_,_,_,_,hD⟩:=HR.out w2 HB2.out.1
 have hby:=Bytes_any Zd p D w2 hD HOk.out
 clear hD
 go_wp2_with fail
 refine hby.mono ?_
 rintro e w3 ⟨rfl,hb3⟩
 have HB3 : Hid (Below w.heap.size w w3/\OpAt w3 w.heap.size ⟨4,oo,ok,ov,oc,ol,oA,oB,on⟩):=⟨belowN HB2.out.1 hb3,heap_later hb3 HB2.out.2⟩
 clear hb3 d0 hby
 obtain ⟨d0,d4,d9,_,hc,hD⟩:=HR.out w3 HB3.out.1
 obtain ⟨x0,_⟩:=HB3.out.2.cells
 have hsy:=cl_sync x w3 hc
 clear hc hD
 go_wp2_with fail
 refine hsy.mono ?_
 rintro e w4 ⟨rfl,hb4⟩
 have HB4 : Hid (Below w.heap.size w w4):=belowN HB3.out.1 hb4
 clear hb4 hsy d0 d4 d9 x0
 obtain ⟨d0,d4,d9,_,hc,hD⟩:=HR.out w4 HB4.out
 have htr:=trouble_any Zd b p D D.failed w4 d0 hD
 clear hc hD
 go_wp2_with fail
 refine htr.mono ?_
 rintro e w5 ⟨r,rfl,_,hb5⟩
 have e9:=cell_later hb5 d9
 have HF : Hid (StepW W Z w q b0 b1 b rem cn 120001 (.returned (.bool true)) w5):=HE.out w5 (belowN HB4.out hb5)
 clear hb5 htr d0 d4 d9
 go_wp2
 go_ret
 exact HF.out
theorem tells_cls (c : Clo Z w b s ms fl rem p m Zd Zx Zm D L vh F n x) (hW : WoR W w q b0 b1 cn) (hd : ∀ k,Z k->¬ W k) (hcn : cn<=20000000000) (K : Int) (hK : K = 5\/K = 6) (oo : Bool) (ok ov oc : ByteArray) (ol : Bool) (oA oB : Int) (on : Value) :
  Calls Tryz.prog 66 #[.pointer (some ⟨q,0,none⟩),.pointer (some ⟨b,0,none⟩),.agg #[.int .i64 K,.bool oo,.string ok,.string ov,.string oc,.bool ol,.int .i64 oA,.int .i64 oB,on]] w fun e w'=>StepW W Z w q b0 b1 b rem cn 120001 e w':=by
 obtain ⟨X,hX,HB,Hrow⟩ : ∃ X,w.alloc (.cells #[.int .i64 K,.bool oo,.string ok,.string ov,.string oc,.bool ol,.int .i64 oA,.int .i64 oB,on] 77) = X/\Hid (Below w.heap.size w X)/\Hid (OpAt X w.heap.size ⟨K,oo,ok,ov,oc,ol,oA,oB,on⟩) :=
  ⟨_,rfl,(Below.refl _ _).alloc (Nat.le_refl _) _,heap_alloc_new w _⟩
 have HR : Hid (∀ X,Below w.heap.size w X->_):=fun X hX=>c.reads X hX
 have HE : Hid (∀ X,Below w.heap.size w X->StepW W Z w q b0 b1 b rem cn 120001 (.returned (.bool true)) X):=fun X hX=>c.idle hW hd X hX
 have hb5:=c.h.lt b c.h.zb
 have HKp : Hid (∀ X v xs,Below w.heap.size w X->OwnX X w.heap.size v xs->xs.length<=1000000->Calls Tryz.prog 107 #[.pointer (some ⟨q,0,none⟩),v] X fun e w'=>e = .returned (.tuple #[])/\StepW W Z w q b0 b1 b rem cn 120001 (.returned (.bool true)) w'):=fun X v xs hX hv hl=>by
  have hXs:=hX.size
  refine ((hW.below hX).keep (B:=w.heap.size) (A:=w.heap.size) v xs hcn hv hl (fun k hk=>?_) (by omega) hXs).mono ?_
  ·have:=(hv.lt k hk).1
   exact ⟨fun hh=>by have:=(hW.five k hh).2;omega,this⟩
  ·rintro e w' ⟨he,hw',t⟩
   have t0 : Tr (fun k=>W k\/w.heap.size<=k) w w':=(below_tr hX _).trans (t.mono fun k hk hz=>by
    rcases hz with hz | hz | hz
    ·exact .inl hz
    ·exact .inr (hv.lt k hz).1
    ·exact .inr (by omega))
   refine ⟨he,rfl,t0.mono (fun k hk hz=>?_),_,Z,_,hw',by omega,⟨_,_,_,_,_,_,_,_,_,_,_,_,_,(c.h.tr t0 (fun k hk hz=>?_) (fun k hz=>?_)).less (by omega),fun hh=>by rw [c.cr] at hh;cases hh⟩,fun k hk hw=>?_,fun k hk=>?_,fun k hk=>.inl hk⟩
   ·rcases hz with hz | hz
    ·exact .inl hz
    ·omega
   ·rcases hz with hz | hz
    ·exact hd k hk hz
    ·have:=(c.h.lt k hk).2;omega
   ·rcases hz with hz | hz
    ·exact (hW.five k hz).1
    ·omega
   ·have hkl:=(c.h.lt k hk).2
    rcases hw.2 with hz | hz | hz
    ·exact hd k hk hz
    ·have:=(hv.lt k hz).1;omega
    ·omega
   ·rcases hk.2 with hz | hz | hz
    ·exact .inl hz
    ·exact .inr (hv.lt k hz).1
    ·exact .inr (by omega)
 clear hb5 hW hd c
 obtain ⟨d0,d4,d9,_,hc,hD⟩:=HR.out X HB.out
 obtain ⟨x0,_⟩:=Hrow.out.cells
 have hct:=cl_counter x X hc
 have hke:=cl_keys x X hc
 clear hc hD
 rcases hK with rfl | rfl
 ·have HF : Hid (StepW W Z w q b0 b1 b rem cn 120001 (.returned (.bool true)) X):=HE.out X HB.out
  clear hke
  go_enter Tryz.func66,Tryz.ntmps66
  go_upto_region 1 with (fail)
  clear hX
  go_wp2_with fail
  refine hct.mono ?_
  rintro e w2 ⟨rfl,rfl⟩
  go_wp2
  go_ret
  exact HF.out
 ·clear hct
  go_enter Tryz.func66,Tryz.ntmps66
  go_upto_region 1 with (fail)
  clear hX
  go_wp2_with fail
  refine hke.mono ?_
  rintro e w2 ⟨v,rfl,hov,hb2⟩
  obtain ⟨a1,q1,hvs⟩:=own_shape hov
  subst hvs
  have e9:=cell_later hb2 d9
  have hst:=sameTexts_any _ 0 _ _ [] [] w2 hov (World.ownsRow_nil _ _ _ _) (by simp) (by simp)
  have HO : Hid (Below w.heap.size w w2/\OwnX w2 w.heap.size (.slice a1 ([] : List ByteArray).length q1) []):=⟨belowN HB.out hb2,own_base hov HB.out.size⟩
  clear hov hb2 d0 d4 d9 hke
  go_wp2_with fail
  refine hst.mono ?_
  rintro e w4 ⟨r,rfl,hr,hb4⟩
  have hr : r = true:=by simpa using hr
  subst hr
  have hkp:=HKp.out w4 _ [] (belowN HO.out.1 hb4) (own_below HO.out.2 hb4) (by simp)
  clear hst hb4 HKp
  go_wp2_with fail
  refine hkp.mono ?_
  rintro e w5 ⟨rfl,hS⟩
  have HF : Hid (StepW W Z w q b0 b1 b rem cn 120001 (.returned (.bool true)) w5):=hS
  clear hS hkp
  go_wp2
  go_ret
  exact HF.out
end Go.Proofs.YtilkdeghknjjhaaGreatDoor
namespace Go.Proofs.YtilkdeghknjjhaaGreatDoor
open Go.RowKit M Go.Maps
variable {Z Zd Zx Zm Y : Nat->Prop} {w : World} {b rem m n x j : Nat} {s : Sd} {ms fl : List Mt} {D : Dk} {L F : List MuV} {vh mv : Value} {J : Jn} {S : St}
theorem sync_cases {p : Nat} (c : Chg Z w b s ms fl rem p m Zd Zx Zm D L vh F n x j Y mv J S) :
  (s.ro = true/\(syncF D J S).1 = 4)\/(s.ro = false/\(syncF D J S).1 = 0)\/(s.ro = false/\(syncF D J S).1 = 7/\D.failed < (syncF D J S).2.1.failed):=by
 by_cases hro : S.ro = true
 ·rw [syncF_ro hro];exact .inl ⟨c.o.ro ▸ hro,rfl⟩
 ·have hro : S.ro = false:=by simpa using hro
  obtain ⟨_,hd,hS,_⟩:=c.o.wr hro
  have hsr : s.ro = false:=c.o.ro ▸ hro
  rcases syncF_res hS (c.h.dr.bu.mono (by omega)) with ⟨k1,_⟩ | ⟨k1,_,k3,_⟩
  ·exact .inr (.inl ⟨hsr,k1⟩)
  ·exact .inr (.inr ⟨hsr,k1,k3⟩)
theorem syncs_opn {p : Nat} (c : Chg Z w b s ms fl rem p m Zd Zx Zm D L vh F n x j Y mv J S) (oo : Bool) (ok ov oc : ByteArray) (ol : Bool) (oA oB : Int) (on : Value) :
  Calls Tryz.prog 65 #[.pointer (some ⟨b,0,none⟩),.agg #[.int .i64 4,.bool oo,.string ok,.string ov,.string oc,.bool ol,.int .i64 oA,.int .i64 oB,on]] w fun e w'=>StepE Z w b rem e w':=by
 obtain ⟨W,hW,HB,Hrow⟩ : ∃ W,w.alloc (.cells #[.int .i64 4,.bool oo,.string ok,.string ov,.string oc,.bool ol,.int .i64 oA,.int .i64 oB,on] 77) = W/\Hid (Below w.heap.size w W)/\Hid (OpAt W w.heap.size ⟨4,oo,ok,ov,oc,ol,oA,oB,on⟩) :=
  ⟨_,rfl,(Below.refl _ _).alloc (Nat.le_refl _) _,heap_alloc_new w _⟩
 obtain ⟨_,_,hDI,_⟩:=c.h.dr.ex
 have HFl : Hid (∀ X,Below w.heap.size w X->Calls Tryz.prog 103 #[.pointer (some ⟨p,0,none⟩)] X fun e w'=>e = .returned (.int .i64 D.failed)/\w' = X):=fun X hX=>Failed_any Zd p D X (c.h.dk.below hX)
 have HLe : Hid (∀ X,Below w.heap.size w X->Calls Tryz.prog 72 #[.pointer (some ⟨p,0,none⟩)] X fun e w'=>e = .returned (.int .i64 (D.cap - D.bytes))/\Below X.heap.size X w'):=fun X hX=>Left_any Zd p D X (c.h.dk.below hX) hDI.wf.ok
 have HBy : Hid (∀ X,Below w.heap.size w X->Calls Tryz.prog 115 #[.pointer (some ⟨p,0,none⟩)] X fun e w'=>e = .returned (.int .i64 D.bytes)/\Below X.heap.size X w'):=fun X hX=>Bytes_any Zd p D X (c.h.dk.below hX) hDI.wf.ok
 have HSy : Hid (∀ X,Below w.heap.size w X->OpAt X w.heap.size ⟨4,oo,ok,ov,oc,ol,oA,oB,on⟩->Calls Tryz.prog 15 #[.pointer (some ⟨x,0,none⟩)] X fun e w'=>e = .returned (.int .i64 (syncF D J S).1)/\StoX Zd Y w w' x j p (n + 2) (syncF D J S).2.1 (syncF D J S).2.2.1 (syncF D J S).2.2.2/\OpAt w' w.heap.size ⟨4,oo,ok,ov,oc,ol,oA,oB,on⟩):=fun X hX hr=>by
  refine (ssync_any Zd Y x j p mv n D J S X (c.o.sto.below hX) hDI.wf (c.h.dr.bu.mono (by omega)) c.o.num).mono ?_
  rintro e w' ⟨he,hw⟩
  exact ⟨he,(StoX.below hX hw).more (by omega),c.row hw hr⟩
 have HRd : Hid (∀ X,SdAt X b s->_):=fun X hs=>hs.reads c.h.d c.h.mm c.o.hx c.o.cl
 have HSd : Hid (∀ X,Below w.heap.size w X->SdAt X b s):=fun X hX=>c.h.sd.below hX
 have HAf : Hid (∀ w2 X,StoX Zd Y w w2 x j p (n + 2) (syncF D J S).2.1 (syncF D J S).2.2.1 (syncF D J S).2.2.2->Below w2.heap.size w2 X->SdAt X b s/\(Calls Tryz.prog 104 #[.pointer (some ⟨b,0,none⟩),.int .i64 D.failed] X fun e w'=>BoolIs (D.failed < (syncF D J S).2.1.failed\/(syncF D J S).2.1.life = 0) X e w')/\(∃ a q,X.cell? ⟨m,1,none⟩ = some (.slice a ms.length q))/\b < w2.heap.size/\∃ Zd',DiskAt Zd' X p (syncF D J S).2.1/\¬ Zd' b):=fun w2 X hX hb=>by
  obtain ⟨h1,h2,h3,_⟩:=c.behind hX
  obtain ⟨⟨Zd',Y',mv',hs',hzd,_⟩,_⟩:=hX
  have hlt:=(c.h.lt b c.h.zb).2
  have hs:=h1.below hb
  obtain ⟨q0,_⟩:=hs.reads c.h.d c.h.mm c.o.hx c.o.cl
  have hmi:=h2.mi.below hb
  obtain ⟨a,qq,hv,_⟩:=hmi.cells
  have hmc : X.cell? ⟨m,1,none⟩ = some vh:=by rw [cell_of_row _ _ _ _ _ _ hmi.hp];rfl
  rw [hv,h2.len.1] at hmc
  refine ⟨hs,trouble_any Zd' b p _ _ X q0 (hs'.side.dk.below hb),⟨a,qq,hmc⟩,by have:=h3.size;omega,Zd',hs'.side.dk.below hb,fun hz=>?_⟩
  rcases hzd b hz with hz | hz
  ·exact c.h.b1 hz
  ·omega
 have HEn : Hid (∀ w2 w' e,StoX Zd Y w w2 x j p (n + 2) (syncF D J S).2.1 (syncF D J S).2.2.1 (syncF D J S).2.2.2->Tr (fun k=>k = b\/w2.heap.size<=k) w2 w'->SdAt w' b (syncS s (syncF D J S).1 ms.length)->e = .returned (.bool true)->StepE Z w b rem e w'):=fun w2 w' e hX t sd he=>c.sync hX t sd he
 have hcs:=sync_cases c
 have hwf2 : ∀ Zd' X,DiskAt Zd' X p (syncF D J S).2.1->Calls Tryz.prog 115 #[.pointer (some ⟨p,0,none⟩)] X fun e w'=>(∃ r : Int,e = .returned (.int .i64 r))/\Below X.heap.size X w':=fun Zd' X hd=>by
  have hw:=jsync_wf hDI.wf 0 (c.h.dr.bu.mono (by omega)) J
  have hwf : (syncF D J S).2.1.WF:=by
   unfold syncF
   rw [stopF_D]
   unfold holdF
   split
   ·exact hDI.wf
   ·split <;> split <;> exact hw
  refine (Bytes_any Zd' p _ X hd hwf.ok).mono ?_
  rintro e w' ⟨he,hb⟩
  exact ⟨⟨_,he⟩,hb⟩
 have HWf : Hid _:=hwf2
 obtain ⟨Q,hQ⟩ : ∃ Q,syncF D J S = Q:=⟨_,rfl⟩
 rw [hQ] at HSy HAf HEn hcs HWf
 obtain ⟨Q1,Q2,Q3,Q4⟩:=Q
 simp only at hcs
 clear hQ hDI hwf2 c
 go_enter Tryz.func65,Tryz.ntmps65
 go_upto_region 1 with (fail)
 clear hW
 obtain ⟨q0,q4,q5,q9,q10,q13⟩:=HRd.out W (HSd.out W HB.out)
 go_wp2_with fail
 refine (HFl.out W HB.out).mono ?_
 rintro e w2 ⟨rfl,rfl⟩
 go_wp2_with fail
 refine (HLe.out w2 HB.out).mono ?_
 rintro e w3 ⟨rfl,hb3⟩
 have HB3 : Hid (Below w.heap.size w w3/\OpAt w3 w.heap.size ⟨4,oo,ok,ov,oc,ol,oA,oB,on⟩):=⟨belowN HB.out hb3,heap_later hb3 Hrow.out⟩
 have r0:=cell_later hb3 q0
 clear hb3 q0 q4 q5 q9 q10 q13
 go_wp2_with fail
 refine (HBy.out w3 HB3.out.1).mono ?_
 rintro e w4 ⟨rfl,hb4⟩
 have HB4 : Hid (Below w.heap.size w w4/\OpAt w4 w.heap.size ⟨4,oo,ok,ov,oc,ol,oA,oB,on⟩):=⟨belowN HB3.out.1 hb4,heap_later hb4 HB3.out.2⟩
 obtain ⟨x0,_⟩:=HB4.out.2.cells
 obtain ⟨_,y4,_⟩:=HRd.out w4 (HSd.out w4 HB4.out.1)
 clear hb4 r0 HB3 HFl HLe HBy
 go_wp2_with fail
 refine (HSy.out w4 HB4.out.1 HB4.out.2).mono ?_
 rintro e w5 ⟨rfl,hX5,hr5⟩
 obtain ⟨hs5,htr,⟨a5,c5,hm5⟩,hbl,Zd',hD5,hZb⟩:=HAf.out w5 w5 hX5 (Below.refl _ _)
 have HX5 : Hid (StoX Zd Y w w5 x j p (n + 2) Q2 Q3 Q4/\SdAt w5 b s/\b < w5.heap.size/\DiskAt Zd' w5 p Q2/\¬ Zd' b/\OpAt w5 w.heap.size ⟨4,oo,ok,ov,oc,ol,oA,oB,on⟩):=⟨hX5,hs5,hbl,hD5,hZb,hr5⟩
 clear hX5 hs5 hbl hD5 hZb hr5 x0 y4 HSy HAf
 go_wp2_with fail
 refine htr.mono ?_
 rintro e w6 ⟨may,rfl,hmay,hb6⟩
 have HM : Hid (may = true ↔ D.failed < Q2.failed\/Q2.life = 0):=hmay
 have HS6 : Hid (Below w5.heap.size w5 w6/\SdAt w6 b s):=⟨hb6,HX5.out.2.1.below hb6⟩
 obtain ⟨q0,_,q5,q9,q10,_⟩:=HRd.out w6 HS6.out.2
 have m6:=cell_later hb6 hm5
 obtain ⟨x0,_⟩:=(show OpAt w6 w.heap.size ⟨4,oo,ok,ov,oc,ol,oA,oB,on⟩ from heap_later hb6 HX5.out.2.2.2.2.2).cells
 have fz:=HS6.out.2.frozen
 have q7 : w6.cell? ⟨b,7,none⟩ = some (.int .i64 s.held):=(HS6.out.2.cell 7).trans rfl
 have q8 : w6.cell? ⟨b,8,none⟩ = some (.int .i64 s.un):=(HS6.out.2.cell 8).trans rfl
 have HO6 : Hid (OpAt w6 w.heap.size ⟨4,oo,ok,ov,oc,ol,oA,oB,on⟩/\b ≠ w.heap.size):=⟨heap_later HS6.out.1 HX5.out.2.2.2.2.2,fun e=>by
  have h1 : OpAt w6 w.heap.size ⟨4,oo,ok,ov,oc,ol,oA,oB,on⟩:=heap_later HS6.out.1 HX5.out.2.2.2.2.2
  have h2:=HS6.out.2
  rw [e] at h2
  have h3:=h1.symm.trans h2
  simp at h3⟩
 clear hmay hb6 htr hm5 HSd HB HB4 Hrow
 have ht6 : Hid (Tr (fun k=>k = b\/w5.heap.size<=k) w5 w6):=below_tr HS6.out.1 _
 rcases hcs with ⟨hro,rfl⟩ | ⟨hro,rfl⟩ | ⟨hro,rfl,hfa⟩
 ·rw [hro] at q10
  have HF : Hid (StepE Z w b rem (.returned (.bool true)) w6):=HEn.out w5 w6 _ HX5.out.1 ht6.out (by unfold syncS;rw [if_pos hro];exact HS6.out.2) rfl
  go_wp2
  go_ret
  exact HF.out
 ·have hrn : ¬ s.ro = true:=by rw [hro];decide
  rw [hro] at q10
  have HR0 : Hid (¬ s.ro = true):=hrn
  clear hrn hro
  go_upto_region 22 with (fail)
  obtain ⟨W8,hW8,HW8⟩ : ∃ W8,(w6.setCell ⟨b,7,none⟩ (.int .i64 (ms.length : Int))).setCell ⟨b,8,none⟩ (.int .i64 0) = W8/\Hid (SdAt W8 b { s with held:=ms.length,un:=0 }/\Tr (fun k=>k = b\/w5.heap.size<=k) w5 W8/\DiskAt Zd' W8 p Q2/\W8.cell? ⟨w.heap.size,0,none⟩ = some (.int .i64 4)):=by
   have h1 : SdAt (w6.setCell ⟨b,7,none⟩ (.int .i64 (ms.length : Int))) b { s with held:=ms.length }:=(heap_setCell_self HS6.out.2 7 _).trans rfl
   have tb : Tr (fun k=>k = b) w6 ((w6.setCell ⟨b,7,none⟩ (.int .i64 (ms.length : Int))).setCell ⟨b,8,none⟩ (.int .i64 0)):=((Tr.refl (fun k=>k = b) w6).setCell (p:=⟨b,7,none⟩) rfl _).setCell (p:=⟨b,8,none⟩) rfl _
   refine ⟨_,rfl,(heap_setCell_self h1 8 _).trans rfl,ht6.out.trans (tb.mono fun k _ hk=>.inl hk),(HX5.out.2.2.2.1.below HS6.out.1).tr tb (fun k hk e=>HX5.out.2.2.2.2.1 (e ▸ hk)),?_⟩
   have ho8 : OpAt ((w6.setCell ⟨b,7,none⟩ (.int .i64 (ms.length : Int))).setCell ⟨b,8,none⟩ (.int .i64 0)) w.heap.size ⟨4,oo,ok,ov,oc,ol,oA,oB,on⟩:=tb.heap HO6.out.1 (fun e=>HO6.out.2 e.symm)
   exact ho8.cells.1
  rw [hW8]
  have x8:=HW8.out.2.2.2
  have y8 : W8.cell? ⟨b,0,none⟩ = some (.pointer (some ⟨p,0,none⟩)):=by
   have:=HW8.out.1.cell 0
   have h0:=HS6.out.2.cell 0
   rw [q0] at h0
   exact this.trans h0.symm
  have hby:=HWf.out Zd' W8 HW8.out.2.2.1
  have HF : Hid (∀ X,Below W8.heap.size W8 X->StepE Z w b rem (.returned (.bool true)) X):=fun X hX=>by
   have hsz:=HS6.out.1.size
   have hs8:=HW8.out.2.1.size
   refine HEn.out w5 X _ HX5.out.1 (HW8.out.2.1.trans (below_tr hX _)) ?_ rfl
   unfold syncS
   rw [if_neg HR0.out,if_neg (by decide)]
   exact HW8.out.1.below hX
  clear hW8 q0 q5 q7 q8 q9 q10 m6 x0 fz
  go_wp2_with fail
  refine hby.mono ?_
  rintro e w9 ⟨⟨r9,rfl⟩,hb9⟩
  have x9:=cell_later hb9 x8
  have HFx:=HF.out w9 hb9
  clear hb9 hby x8 y8
  go_wp2
  go_ret
  exact HFx
 ·have hrn : ¬ s.ro = true:=by rw [hro];decide
  rw [hro] at q10
  have hmt : may = true:=HM.out.2 (.inl hfa)
  subst hmt
  have HF : Hid (StepE Z w b rem (.returned (.bool true)) (w6.setCell ⟨b,10,none⟩ (.bool true))):=by
   refine HEn.out w5 _ _ HX5.out.1 (ht6.out.trans ((Tr.refl (fun k=>k = b\/w5.heap.size<=k) w6).setCell (p:=⟨b,10,none⟩) (.inl rfl) _)) ?_ rfl
   unfold syncS
   rw [if_neg hrn,if_pos rfl]
   exact HS6.out.2.setRO true
  clear hrn hro hfa
  go_wp2
  go_ret
  exact HF.out
end Go.Proofs.YtilkdeghknjjhaaGreatDoor
