/- A part of the proof. -/
import Derived.Test.YtilkdeghknjjhaaGreatDoorPart50
import Derived.Test.YtilkdeghknjjhaaGreatDoorPart47
import Derived.Test.YtilkdeghknjjhaaGreatDoorPart49
set_option maxRecDepth 20000
set_option maxHeartbeats 3200000
set_option linter.unusedVariables false
namespace Go.Proofs.YtilkdeghknjjhaaGreatDoor
open Go.RowKit M Go.Maps
variable {W Z Zd Zx Zm : Nat->Prop} {w : World} {q b0 b1 b rem m n x cn : Nat} {s : Sd} {ms fl : List Mt} {D : Dk} {L F : List MuV} {vh : Value}
theorem changes_cls {p : Nat} (c : Clo Z w b s ms fl rem p m Zd Zx Zm D L vh F n x) (hW : WoR W w q b0 b1 cn) (hd : ∀ k,Z k->¬ W k) (K : Int) (hK : K = 1\/K = 3) (oo : Bool) (ok ov oc : ByteArray) (ol : Bool) (oA oB : Int) (on : Value) :
  Calls Tryz.prog 64 #[.pointer (some ⟨b,0,none⟩),.agg #[.int .i64 K,.bool oo,.string ok,.string ov,.string oc,.bool ol,.int .i64 oA,.int .i64 oB,on]] w fun e w'=>StepW W Z w q b0 b1 b rem cn 120001 e w':=by
 obtain ⟨X,hX,HB,Hrow⟩ : ∃ X,w.alloc (.cells #[.int .i64 K,.bool oo,.string ok,.string ov,.string oc,.bool ol,.int .i64 oA,.int .i64 oB,on] 77) = X/\Hid (Below w.heap.size w X)/\Hid (OpAt X w.heap.size ⟨K,oo,ok,ov,oc,ol,oA,oB,on⟩) :=
  ⟨_,rfl,(Below.refl _ _).alloc (Nat.le_refl _) _,heap_alloc_new w _⟩
 have HR : Hid (∀ X,Below w.heap.size w X->_):=fun X hX=>c.reads X hX
 obtain ⟨_,_,hDI,_⟩:=c.h.dr.ex
 have HOk : Hid D.OK:=hDI.wf.ok
 have HE : Hid (∀ X,Below w.heap.size w X->StepW W Z w q b0 b1 b rem cn 120001 (.returned (.bool true)) X):=fun X hX=>c.idle hW hd X hX
 obtain ⟨tt,htt⟩ : ∃ tt,(if ol = true then s.ctx else oc) = tt:=⟨_,rfl⟩
 have HT : Hid ((if ol = true then s.ctx else oc) = tt):=htt
 have HPu : Hid (∀ X,Below w.heap.size w X->Calls Tryz.prog 25 #[.pointer (some ⟨x,0,none⟩),.string ok,.string ov,.string tt] X fun e w'=>e = .returned (.int .i64 3)/\Below X.heap.size X w'):=fun X hX=>cl_put x ok ov tt X (c.at_.below hX)
 have HDe : Hid (∀ X,Below w.heap.size w X->Calls Tryz.prog 31 #[.pointer (some ⟨x,0,none⟩),.string ok,.string tt] X fun e w'=>e = .returned (.int .i64 3)/\Below X.heap.size X w'):=fun X hX=>cl_delete x ok tt X (c.at_.below hX)
 clear hDI c hW hd htt
 obtain ⟨d0,d4,d9,d13,hc,hD⟩:=HR.out X HB.out
 have hf:=Failed_any Zd p D X hD
 have hl:=Left_any Zd p D X hD HOk.out
 obtain ⟨p0,p2,p3,p4,p5,_,_⟩:=Hrow.out.cells
 clear hc hD
 go_enter Tryz.func64,Tryz.ntmps64
 go_upto_region 1 with (fail)
 clear hX
 go_upto_if 18 with (fail)
 go_cut [5] from 19 to 22 (fun v5 wx=>v5 = .string tt/\wx = X)
 case first =>
  cases ol
  ·have ht : oc = tt:=HT.out
   subst ht
   go_wp2
   go_meet
   exact ⟨rfl,rfl⟩
  ·have ht : s.ctx = tt:=HT.out
   rw [ht] at d13
   go_wp2
   go_meet
   exact ⟨rfl,rfl⟩
 case rest =>
  obtain ⟨rfl,hwc⟩:=hcut
  subst hwc
  go_wp2_with fail
  refine hf.mono ?_
  rintro e w2 ⟨rfl,rfl⟩
  go_wp2_with fail
  refine hl.mono ?_
  rintro e w3 ⟨rfl,hb3⟩
  have HB3 : Hid (Below w.heap.size w w3/\OpAt w3 w.heap.size ⟨K,oo,ok,ov,oc,ol,oA,oB,on⟩):=⟨belowN HB.out hb3,heap_later hb3 Hrow.out⟩
  clear hb3 d0 d4 d9 d13 p0 p2 p3 p4 p5 hf hl
  obtain ⟨_,y4,y9,_,_,_⟩:=HR.out w3 HB3.out.1
  obtain ⟨x0,x2,x3,_,_,_,_⟩:=HB3.out.2.cells
  rcases hK with rfl | rfl
  ·go_upto_region 7 with (fail)
   go_cut [8] from 36 to 45 (fun v8 wx=>v8 = .int .i64 3/\Hid (Below w.heap.size w wx))
   case first =>
    go_region_held3 (fun w'=>w'.cell? ⟨b,4,none⟩ = some (.pointer (some ⟨x,0,none⟩))/\w'.cell? ⟨w.heap.size,2,none⟩ = some (.string ok)/\w'.cell? ⟨w.heap.size,3,none⟩ = some (.string ov))
     (first | exact ⟨k4,k2,k3⟩ | exact ⟨y4,x2,x3⟩)
     (first
     | (go_at_call 25;refine (HPu.out _ (by repeat (first | exact HB3.out.1 | refine Below.drew ?_ | refine below_drewN ?_ _))).mono ?_;rintro e w5 ⟨rfl,hb5⟩;have hb5' : Below w3.heap.size w3 w5:=(by first | exact Below.ofDrew hb5 | exact hb5);have k4:=cell_later hb5' y4;have k2:=cell_later hb5' x2;have k3:=cell_later hb5' x3;have HB5 : Hid (Below w.heap.size w w5):=belowN HB3.out.1 hb5';clear hb5 hb5'))
    all_goals
     go_wp2_with fail
     go_meet
     exact ⟨rfl,HB5⟩
   case rest =>
    obtain ⟨rfl,HB6⟩:=hcut
    rename World=>w6
    obtain ⟨_,_,z9,_,_,_⟩:=HR.out w6 HB6.out
    have HF : Hid (StepW W Z w q b0 b1 b rem cn 120001 (.returned (.bool true)) w6):=HE.out w6 HB6.out
    clear y4 y9 x0 x2 x3
    go_wp2
    go_ret
    exact HF.out
  ·go_upto_region 14 with (fail)
   go_cut [11] from 82 to 89 (fun v8 wx=>v8 = .int .i64 3/\Hid (Below w.heap.size w wx))
   case first =>
    go_region_held3 (fun w'=>w'.cell? ⟨b,4,none⟩ = some (.pointer (some ⟨x,0,none⟩))/\w'.cell? ⟨w.heap.size,2,none⟩ = some (.string ok))
     (first | exact ⟨k4,k2⟩ | exact ⟨y4,x2⟩)
     (first
     | (go_at_call 31;refine (HDe.out _ (by repeat (first | exact HB3.out.1 | refine Below.drew ?_ | refine below_drewN ?_ _))).mono ?_;rintro e w5 ⟨rfl,hb5⟩;have hb5' : Below w3.heap.size w3 w5:=(by first | exact Below.ofDrew hb5 | exact hb5);have k4:=cell_later hb5' y4;have k2:=cell_later hb5' x2;have HB5 : Hid (Below w.heap.size w w5):=belowN HB3.out.1 hb5';clear hb5 hb5'))
    all_goals
     go_wp2_with fail
     go_meet
     exact ⟨rfl,HB5⟩
   case rest =>
    obtain ⟨rfl,HB6⟩:=hcut
    rename World=>w6
    obtain ⟨_,_,z9,_,_,_⟩:=HR.out w6 HB6.out
    have HF : Hid (StepW W Z w q b0 b1 b rem cn 120001 (.returned (.bool true)) w6):=HE.out w6 HB6.out
    clear y4 y9 x0 x2 x3
    go_wp2
    go_ret
    exact HF.out
theorem Chg.close {p : Nat} {j : Nat} {Y : Nat->Prop} {mv : Value} {J : Jn} {S : St} (c : Chg Z w b s ms fl rem p m Zd Zx Zm D L vh F n x j Y mv J S) (hW : WoR W w q b0 b1 cn) (hd : ∀ k,Z k->¬ W k) {w1 : World} (hc : ClAt w1 x) (t : Tr (One x) w w1) :
  StepW W Z w q b0 b1 b rem cn 120001 (.returned (.bool true)) (w1.setCell ⟨b,9,none⟩ (.bool true))/\SdAt w1 b s:=by
 have hb:=c.h.lt b c.h.zb
 have hxz : Zx x:=c.o.yz x c.o.sto.st.ys
 have hbx : b ≠ x:=fun e=>c.h.b2 (e ▸ hxz)
 have hs1 : SdAt w1 b s:=c.h.sd.tr t (fun e=>hbx e)
 have tb : Tr (fun k=>k = b) w1 (w1.setCell ⟨b,9,none⟩ (.bool true)):=(Tr.refl (fun k=>k = b) w1).setCell (p:=⟨b,9,none⟩) rfl _
 have hsz : (w1.setCell ⟨b,9,none⟩ (.bool true)).heap.size = w1.heap.size:=by simp [World.setCell]
 have tt : Tr (fun k=>k = x\/k = b) w (w1.setCell ⟨b,9,none⟩ (.bool true)):=(t.mono fun k _ hk=>.inl hk).trans (tb.mono fun k _ hk=>.inr hk)
 have hz : Tr Z w (w1.setCell ⟨b,9,none⟩ (.bool true)):=tt.mono fun k _ hk=>hk.elim (fun e=>e ▸ c.h.zx x hxz) (fun e=>e ▸ c.h.zb)
 have hts:=tt.size
 refine ⟨StepE.w ⟨rfl,hz,Z,⟨{ s with cl:=true },ms,fl,p,m,Zd,Zx,Zm,D,L,vh,F,n,⟨(heap_setCell_self hs1 9 _).trans rfl,c.h.d,c.h.mm,c.h.dk.tr tt (fun k hk hh=>?_),(c.h.dr.less (by omega)),c.h.doc.tr tt (fun k hk hh=>?_),.cls x c.o.hx rfl (tb.heap hc (fun e=>hbx e.symm)) hxz,c.h.o,c.h.zd,c.h.zx,c.h.zm,c.h.zb,c.h.a1,c.h.a2,c.h.a3,c.h.b1,c.h.b2,c.h.b3,fun k hk=>⟨(c.h.lt k hk).1,Nat.lt_of_lt_of_le (c.h.lt k hk).2 hts⟩,by have:=c.h.len;omega,by have:=c.h.nn;omega,c.h.h0,c.h.h1,c.h.u0,c.h.u1,c.h.ct⟩,fun hh=>by rw [show ({ s with cl:=true } : Sd).cr = s.cr from rfl,c.o.cr] at hh;cases hh⟩,fun k hk=>.inl hk⟩ hW hd _,hs1⟩
 ·rcases hh with e | e
  ·exact c.h.a1 k hk (e ▸ hxz)
  ·exact c.h.b1 (e ▸ hk)
 ·rcases hh with e | e
  ·exact c.h.a3 k (e ▸ hxz) hk
  ·exact c.h.b3 (e ▸ hk)
end Go.Proofs.YtilkdeghknjjhaaGreatDoor
namespace Go.Proofs.YtilkdeghknjjhaaGreatDoor
open Go.RowKit M Go.Maps
variable {W Z Zd Zx Zm : Nat->Prop} {w : World} {q b0 b1 b rem cn p m n : Nat} {s : Sd} {ms fl : List Mt} {D : Dk} {L F : List MuV} {vh : Value}
theorem StepW.ahead {Z2 : Nat->Prop} {X w' : World} {c K : Nat} {e : Ending} (h : StepW W Z2 X q b0 b1 b rem c K e w') (t : Tr Z w X) (hz : ∀ k,Z2 k->Z k\/w.heap.size<=k) : StepW W Z w q b0 b1 b rem c K e w':=by
 obtain ⟨he,t2,W',Z',c',h1,h2,h3,h4,h5,h6⟩:=h
 have hs:=t.size
 refine ⟨he,(t.mono fun k _ hk=>.inr hk).trans' t2 fun k hk hh=>?_,W',Z',c',h1,h2,h3,h4,fun k hk=>(h5 k hk).imp (fun h=>h) (fun h=>by omega),fun k hk=>?_⟩
 ·rcases hh with hh | hh
  ·exact .inl hh
  ·exact (hz k hh).elim .inr (fun h=>by omega)
 ·rcases h6 k hk with h | h
  ·exact hz k h
  ·exact .inr (by omega)
theorem happens_open
  (h : SdR Z w b s ms fl (rem + 1) p m Zd Zx Zm D L vh F n) (hW : WoR W w q b0 b1 cn) (hd : ∀ k,Z k->¬ W k) (hvs : Vars w) (hc : cn + 120001<=20000000000) (oo : Bool) (ok ov oc : ByteArray) (ol : Bool) (oA oB : Int) (on : Value) :
  Calls Tryz.prog 62 #[.pointer (some ⟨q,0,none⟩),.pointer (some ⟨b,0,none⟩),.agg #[.int .i64 8,.bool oo,.string ok,.string ov,.string oc,.bool ol,.int .i64 oA,.int .i64 oB,on]] w fun e w'=>StepW W Z w q b0 b1 b rem cn 120001 e w':=by
 obtain ⟨X,hX,HB,Hrow⟩ : ∃ X,w.alloc (.cells #[.int .i64 8,.bool oo,.string ok,.string ov,.string oc,.bool ol,.int .i64 oA,.int .i64 oB,on] 77) = X/\Hid (Below w.heap.size w X)/\Hid (OpAt X w.heap.size ⟨8,oo,ok,ov,oc,ol,oA,oB,on⟩) :=
  ⟨_,rfl,(Below.refl _ _).alloc (Nat.le_refl _) _,heap_alloc_new w _⟩
 have hbz:=h.lt b h.zb
 have hop:=opens_any W Z q b0 b1 cn b s ms fl rem p m Zd Zx Zm D L vh F n X (h.below HB.out (by omega)) (hW.below HB.out) hd (hvs.below HB.out) hc
 have HE : Hid (∀ e w',OpensW W Z X q b0 b1 b rem cn D e w'->StepW W Z w q b0 b1 b rem cn 120001 e w'):=fun e w' hh=>hh.1.ahead (below_tr HB.out Z) (fun k hk=>.inl hk)
 obtain ⟨x0,_⟩:=Hrow.out.cells
 clear hbz h hW hd hvs hc
 go_enter Tryz.func62,Tryz.ntmps62
 go_upto_region 1 with (fail)
 clear hX
 go_wp2_with fail
 refine hop.mono ?_
 intro e w2 hO
 have hS:=HE.out e w2 hO
 obtain ⟨rfl,hS2⟩:=hS
 have HF : Hid (StepW W Z w q b0 b1 b rem cn 120001 (.returned (.bool true)) w2):=⟨rfl,hS2⟩
 clear hS2 hO HE hop
 go_wp2
 go_ret
 exact HF.out
theorem happens_fail
  (h : SdR Z w b s ms fl (rem + 1) p m Zd Zx Zm D L vh F n) (hcx : s.cr = true->s.x = .pointer none) (hW : WoR W w q b0 b1 cn) (hd : ∀ k,Z k->¬ W k) (K : Int) (hK : K = 9\/K = 10) (oo : Bool) (ok ov oc : ByteArray) (ol : Bool) (oA oB : Int) (on : Value) (hA : oA<=9223372036854775807) :
  Calls Tryz.prog 62 #[.pointer (some ⟨q,0,none⟩),.pointer (some ⟨b,0,none⟩),.agg #[.int .i64 K,.bool oo,.string ok,.string ov,.string oc,.bool ol,.int .i64 oA,.int .i64 oB,on]] w fun e w'=>StepW W Z w q b0 b1 b rem cn 120001 e w':=by
 obtain ⟨X,hX,HB,Hrow⟩ : ∃ X,w.alloc (.cells #[.int .i64 K,.bool oo,.string ok,.string ov,.string oc,.bool ol,.int .i64 oA,.int .i64 oB,on] 77) = X/\Hid (Below w.heap.size w X)/\Hid (OpAt X w.heap.size ⟨K,oo,ok,ov,oc,ol,oA,oB,on⟩) :=
  ⟨_,rfl,(Below.refl _ _).alloc (Nat.le_refl _) _,heap_alloc_new w _⟩
 have hbz:=h.lt b h.zb
 have hX1:=h.below HB.out (by omega)
 have d0 : X.cell? ⟨b,0,none⟩ = some (.pointer (some ⟨p,0,none⟩)):=(hX1.sd.cell 0).trans (congrArg some h.d)
 obtain ⟨x0,_,_,_,_,x6,_⟩:=Hrow.out.cells
 have HEd : Hid (∀ Y E w',Below X.heap.size X Y->Like D E->DiskAt Zd w' p E->Tr Zd Y w'->StepW W Z w q b0 b1 b rem cn 120001 (.returned (.bool true)) w'):=fun Y E w' hY hl hE t=>by
  have hb2:=belowN HB.out hY
  have h2:=(h.below hb2 (by omega)).like hl hE t
  exact StepE.w ⟨rfl,(below_tr hb2 Z).trans (t.mono fun k _ hk=>h.zd k hk),Z,⟨_,_,_,_,_,_,_,_,_,_,_,_,_,h2.less (by omega),hcx⟩,fun k hk=>.inl hk⟩ hW hd _
 have HFa : Hid (∀ Y,Below X.heap.size X Y->Calls Tryz.prog 108 #[.pointer (some ⟨p,0,none⟩),.int .i64 oA] Y fun e w'=>e = .returned (.tuple #[])/\StepW W Z w q b0 b1 b rem cn 120001 (.returned (.bool true)) w'/\Tr Zd Y w'):=fun Y hY=>by
  refine (Fail_any Zd p D oA Y ((h.dk.below HB.out).below hY)).mono ?_
  rintro e w' ⟨he,hE,t⟩
  exact ⟨he,HEd.out Y _ w' hY (like_fail D oA hA) hE t,t⟩
 have HDi : Hid (∀ Y,Below X.heap.size X Y->Calls Tryz.prog 60 #[.pointer (some ⟨p,0,none⟩),.int .i64 oA] Y fun e w'=>e = .returned (.tuple #[])/\StepW W Z w q b0 b1 b rem cn 120001 (.returned (.bool true)) w'/\Tr Zd Y w'):=fun Y hY=>by
  refine (Die_any Zd p D oA Y ((h.dk.below HB.out).below hY)).mono ?_
  rintro e w' ⟨he,hE,t⟩
  exact ⟨he,HEd.out Y _ w' hY (like_die D oA hA) hE t,t⟩
 have HNb : Hid (¬ Zd b/\¬ Zd w.heap.size):=⟨h.b1,fun hz=>by have:=(h.lt _ (h.zd _ hz)).2;omega⟩
 clear hbz hX1 HEd h hW hd hcx
 rcases hK with rfl | rfl
 ·go_enter Tryz.func62,Tryz.ntmps62
  go_upto_region 1 with (fail)
  clear hX
  go_upto_region 3 with (fail)
  go_cut [] from 11 to 17 (fun wx=>Hid (StepW W Z w q b0 b1 b rem cn 120001 (.returned (.bool true)) wx))
  case first =>
   go_region_held3 (fun w'=>w'.cell? ⟨b,0,none⟩ = some (.pointer (some ⟨p,0,none⟩))/\w'.cell? ⟨w.heap.size,6,none⟩ = some (.int .i64 oA))
    (first | exact ⟨k0,k6⟩ | exact ⟨d0,x6⟩)
    (first
    | (go_at_call 108;refine (HFa.out _ (by repeat (first | exact Below.refl _ _ | refine Below.drew ?_ | refine below_drewN ?_ _))).mono ?_;rintro e w5 ⟨rfl,hS,t5⟩;have k0:=cell_tr t5 (show _ = _ from d0) HNb.out.1;have k6:=cell_tr t5 (show _ = _ from x6) HNb.out.2;have HS : Hid (StepW W Z w q b0 b1 b rem cn 120001 (.returned (.bool true)) w5):=hS;clear hS t5))
   all_goals
    go_wp2_with fail
    go_meet
    exact HS
  case rest =>
   have HF:=hcut.out
   clear d0 x0 x6
   go_wp2
   go_ret
   exact HF
 ·go_enter Tryz.func62,Tryz.ntmps62
  go_upto_region 1 with (fail)
  clear hX
  go_upto_region 6 with (fail)
  go_cut [] from 20 to 26 (fun wx=>Hid (StepW W Z w q b0 b1 b rem cn 120001 (.returned (.bool true)) wx))
  case first =>
   go_region_held3 (fun w'=>w'.cell? ⟨b,0,none⟩ = some (.pointer (some ⟨p,0,none⟩))/\w'.cell? ⟨w.heap.size,6,none⟩ = some (.int .i64 oA))
    (first | exact ⟨k0,k6⟩ | exact ⟨d0,x6⟩)
    (first
    | (go_at_call 60;refine (HDi.out _ (by repeat (first | exact Below.refl _ _ | refine Below.drew ?_ | refine below_drewN ?_ _))).mono ?_;rintro e w5 ⟨rfl,hS,t5⟩;have k0:=cell_tr t5 (show _ = _ from d0) HNb.out.1;have k6:=cell_tr t5 (show _ = _ from x6) HNb.out.2;have HS : Hid (StepW W Z w q b0 b1 b rem cn 120001 (.returned (.bool true)) w5):=hS;clear hS t5))
   all_goals
    go_wp2_with fail
    go_meet
    exact HS
  case rest =>
   have HF:=hcut.out
   clear d0 x0 x6
   go_wp2
   go_ret
   exact HF
theorem happens_crash
  (h : SdR Z w b s ms fl (rem + 1) p m Zd Zx Zm D L vh F n) (hW : WoR W w q b0 b1 cn) (hd : ∀ k,Z k->¬ W k) (hvs : Vars w) (hc : cn + 120001<=20000000000) (oo : Bool) (ok ov oc : ByteArray) (ol : Bool) (oA oB : Int) (on : Value) (keep : List Int) (hk : RdI w on keep) (hkz : 0 < keep.length->InZ (fun k=>¬ Z k/\k < w.heap.size) on) (hk64 : In64 keep) (hkl : keep.length<=1000000000000000) :
  Calls Tryz.prog 62 #[.pointer (some ⟨q,0,none⟩),.pointer (some ⟨b,0,none⟩),.agg #[.int .i64 11,.bool oo,.string ok,.string ov,.string oc,.bool ol,.int .i64 oA,.int .i64 oB,on]] w fun e w'=>StepW W Z w q b0 b1 b rem cn 120001 e w':=by
 obtain ⟨X,hX,HB,Hrow⟩ : ∃ X,w.alloc (.cells #[.int .i64 11,.bool oo,.string ok,.string ov,.string oc,.bool ol,.int .i64 oA,.int .i64 oB,on] 77) = X/\Hid (Below w.heap.size w X)/\Hid (OpAt X w.heap.size ⟨11,oo,ok,ov,oc,ol,oA,oB,on⟩) :=
  ⟨_,rfl,(Below.refl _ _).alloc (Nat.le_refl _) _,heap_alloc_new w _⟩
 have hbz:=h.lt b h.zb
 have h5 : 5<=w.heap.size:=by omega
 have hX1:=h.below HB.out h5
 have d0 : X.cell? ⟨b,0,none⟩ = some (.pointer (some ⟨p,0,none⟩)):=(hX1.sd.cell 0).trans (congrArg some h.d)
 obtain ⟨x0,_,_,_,_,_,x8⟩:=Hrow.out.cells
 have hlen:=h.len
 have HCr : Hid (∀ Y,Below X.heap.size X Y->Calls Tryz.prog 16 #[.pointer (some ⟨p,0,none⟩),on] Y fun e w'=>e = .returned (.tuple #[])/\Tr (fun k=>Zd k\/Y.heap.size<=k) Y w'/\SdAt w' b s /\
   Calls Tryz.prog 61 #[.pointer (some ⟨q,0,none⟩),.pointer (some ⟨b,0,none⟩)] (w'.setCell ⟨b,11,none⟩ (.bool true)) fun e w2=>StepW W Z w q b0 b1 b rem cn 120001 e w2):=fun Y hY=>by
  have hbY:=belowN HB.out hY
  have hSY:=h.below hbY h5
  have hYs:=hbY.size
  refine (Crash_any (Zn Zd Y.heap.size) p D on keep Y (hSY.dk.mono fun k hk=>.inl hk) (h.dr.crash (by omega) keep).1 (fun k hk=>.inr hk) (hk.below hbY) (fun h0 k hk2 hz=>?_) hk64 hkl).mono ?_
  ·have h1:=hkz h0 k hk2
   rcases hz with hz | hz
   ·exact h1.1 (h.zd k hz)
   ·omega
  ·rintro e w' ⟨he,hE,t⟩
   obtain ⟨g1,g2⟩:=hSY.crash keep hE t
   have t0 : Tr Zd Y w':=t.mono fun k hk2 hz=>hz.elim (fun h=>h) (fun h=>by omega)
   refine ⟨he,t,hSY.sd.tr t0 h.b1,?_⟩
   have hWY : WoR W (w'.setCell ⟨b,11,none⟩ (.bool true)) q b0 b1 cn:=(hW.below hbY).tr g2 (fun k hk2 hz=>hd k hz hk2)
   have hvY : Vars (w'.setCell ⟨b,11,none⟩ (.bool true)):=(hvs.below hbY).tr g2 (fun k hk2 hz=>by have:=(h.lt k hz).1;omega)
   refine (opens_any W _ q b0 b1 cn b _ ms fl rem p m _ Zx Zm _ L vh F n _ g1 hWY (fun k hk2 hw=>?_) hvY hc).mono ?_
   ·rcases hk2 with hk2 | hk2
    ·exact hd k hk2 hw
    ·have:=(hW.five k hw).2;omega
   ·intro e w2 hO
    exact hO.1.ahead ((below_tr hbY Z).trans g2) (fun k hk2=>hk2.imp (fun h=>h) (fun h=>by omega))
 have HNb : Hid (¬ Zd b/\¬ Zd w.heap.size/\b < w.heap.size):=⟨h.b1,fun hz=>by have:=(h.lt _ (h.zd _ hz)).2;omega,hbz.2⟩
 have HXs : Hid (w.heap.size < X.heap.size):=(Array.getElem?_eq_some_iff.1 Hrow.out).1
 clear hbz hX1 h hW hd hlen hk hkz hk64 hkl hvs hc
 go_enter Tryz.func62,Tryz.ntmps62
 go_upto_region 1 with (fail)
 clear hX
 go_upto_region 9 with (fail)
 go_cut [] from 29 to 35 (fun wx=>Hid (SdAt wx b s/\wx.cell? ⟨w.heap.size,0,none⟩ = some (.int .i64 11)/\Calls Tryz.prog 61 #[.pointer (some ⟨q,0,none⟩),.pointer (some ⟨b,0,none⟩)] (wx.setCell ⟨b,11,none⟩ (.bool true)) fun e w2=>StepW W Z w q b0 b1 b rem cn 120001 e w2))
 case first =>
  go_region_held3 (fun w'=>w'.cell? ⟨b,0,none⟩ = some (.pointer (some ⟨p,0,none⟩))/\w'.cell? ⟨w.heap.size,8,none⟩ = some on)
   (first | exact ⟨k0,k8⟩ | exact ⟨d0,x8⟩)
   (first
   | (go_at_call 16;refine (HCr.out _ (by repeat (first | exact Below.refl _ _ | refine Below.drew ?_ | refine below_drewN ?_ _))).mono ?_;rintro e w5 ⟨rfl,t5,hs5,hop5⟩;have k0:=cell_tr t5 (show _ = _ from d0) (fun hz=>hz.elim HNb.out.1 (fun hz=>by have:=HNb.out.2.2;have:=HXs.out;have hz : X.heap.size<=b:=hz;omega));have k8:=cell_tr t5 (show _ = _ from x8) (fun hz=>hz.elim HNb.out.2.1 (fun hz=>by have:=HXs.out;have hz : X.heap.size<=w.heap.size:=hz;omega));have k00:=cell_tr t5 (show _ = _ from x0) (fun hz=>hz.elim HNb.out.2.1 (fun hz=>by have:=HXs.out;have hz : X.heap.size<=w.heap.size:=hz;omega));have HS : Hid (SdAt w5 b s):=hs5;have HO : Hid (Calls Tryz.prog 61 #[.pointer (some ⟨q,0,none⟩),.pointer (some ⟨b,0,none⟩)] (w5.setCell ⟨b,11,none⟩ (.bool true)) fun e w2=>StepW W Z w q b0 b1 b rem cn 120001 e w2):=hop5;have HK0 : Hid (w5.cell? ⟨w.heap.size,0,none⟩ = some (.int .i64 11)):=k00;clear hs5 hop5 t5 k00))
  all_goals
   go_wp2_with fail
   go_meet
   exact ⟨HS.out,HK0.out,HO.out⟩
 case rest =>
  obtain ⟨hs,hx0,hop⟩:=hcut.out
  rename World=>w6
  have c11 : w6.cell? ⟨b,11,none⟩ = some (.bool s.cr):=(hs.cell 11).trans rfl
  have fz:=hs.frozen
  have HO : Hid (Calls Tryz.prog 61 #[.pointer (some ⟨q,0,none⟩),.pointer (some ⟨b,0,none⟩)] (w6.setCell ⟨b,11,none⟩ (.bool true)) fun e w2=>StepW W Z w q b0 b1 b rem cn 120001 e w2):=hop
  clear d0 x0 x8 hs hcut hop
  go_upto_region 11 with (fail)
  obtain ⟨W7,hW7,HO7⟩ : ∃ W7,w6.setCell ⟨b,11,none⟩ (.bool true) = W7/\Hid (Calls Tryz.prog 61 #[.pointer (some ⟨q,0,none⟩),.pointer (some ⟨b,0,none⟩)] W7 fun e w2=>StepW W Z w q b0 b1 b rem cn 120001 e w2):=⟨_,rfl,HO.out⟩
  rw [hW7]
  clear hW7 c11 fz hx0 HO
  go_wp2_with fail
  refine HO7.out.mono ?_
  rintro e w8 ⟨rfl,hS⟩
  have HF : Hid (StepW W Z w q b0 b1 b rem cn 120001 (.returned (.bool true)) w8):=⟨rfl,hS⟩
  clear hS HO7
  go_wp2
  go_ret
  exact HF.out
end Go.Proofs.YtilkdeghknjjhaaGreatDoor
