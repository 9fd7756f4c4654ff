/- A part of the proof. -/
import Derived.Test.YtilkdeghknjjhaaGreatDoorPart53
import Derived.Test.YtilkdeghknjjhaaGreatDoorPart26
set_option maxRecDepth 20000
set_option maxHeartbeats 3200000
set_option linter.unusedVariables false
namespace Go.Proofs.YtilkdeghknjjhaaGreatDoor
open Go.RowKit M Go.Maps
variable {Z Zd Zx Zm : Nat->Prop} {w w' : World} {b rem p m n : Nat} {s : Sd} {ms fl : List Mt} {D : Dk} {L F : List MuV} {vh : Value}
theorem tr_ofDrew (h : Tr Z w.drew w') : Tr Z w w':=⟨h.os,h.tape,h.output,h.size,h.block⟩
theorem cell_eq {o : Nat} (h : w'.heap[b]? = w.heap[b]?) : w'.cell? ⟨b,o,none⟩ = w.cell? ⟨b,o,none⟩:=by
 simp only [World.cell?,h]
theorem SdR.xs (h : SdR Z w b s ms fl rem p m Zd Zx Zm D L vh F n) (hc : s.cr = true->s.x = .pointer none) : s.x = .pointer none\/∃ x,s.x = .pointer (some ⟨x,0,none⟩):=by
 rcases h.x with hx | hg | ⟨x,hx,_⟩ | ⟨x,j,Y,mv,J,S,o⟩
 ·exact .inl hx
 ·exact .inl (hc hg)
 ·exact .inr ⟨x,hx⟩
 ·exact .inr ⟨x,o.hx⟩
theorem first_die {W : Nat->Prop} {q b0 b1 cn : Nat} {A : Nat} {vs : Value} {os : List OpV}
  (h : SdR Z w b s ms fl (rem + 1 + 1) p m Zd Zx Zm D L vh F n) (hW : WoR W w q b0 b1 cn) (hd : ∀ k,Z k->¬ W k) (hvs : Vars w) (hc : cn + 240002<=20000000000) (up : Int) (hs : Scr w A vs os) (h0 : 0 < os.length) (hK : os[0].K = 10) (hup : 10<=up) (hA : ∀ k,W k\/Z k->A<=k) (hAw : A<=w.heap.size) :
  Calls Tryz.prog 34 #[.pointer (some ⟨q,0,none⟩),.pointer (some ⟨b,0,none⟩),vs,.int .i64 up] w fun e w'=>StepW W Z w q b0 b1 b rem cn 240002 e w':=by
 have HSc : Hid (Scr w A vs os):=hs
 obtain ⟨a,cap,rfl,h1⟩:=hs.at_
 obtain ⟨bk,off,rfl,hbA,hr⟩:=h1 h0
 have hok:=hs.ok os[0] (List.getElem_mem h0)
 obtain ⟨oA,hoA⟩ : ∃ z,os[0].A = z:=⟨_,rfl⟩
 obtain ⟨on,hon⟩ : ∃ z,os[0].n = z:=⟨_,rfl⟩
 have hrow:=hr 0 h0
 have HRow : Hid (∀ X,Scr X A (.slice (some ⟨bk,off,none⟩) os.length cap) os->X.cell? ⟨bk,off,none⟩ = some (.int .i64 10)/\X.cell? ⟨bk,off + 6,none⟩ = some (.int .i64 oA)/\X.cell? ⟨bk,off + 8,none⟩ = some on):=fun X hX=>by
  obtain ⟨a2,cap2,e2,g1⟩:=hX.at_
  injection e2 with e3 e4 e5
  subst e3
  obtain ⟨bk2,off2,e6,_,g2⟩:=g1 h0
  injection e6 with e7
  injection e7 with e8 e9
  subst e8;subst e9
  have k0:=g2 0 h0 0 _ rfl
  have k6:=g2 0 h0 6 _ rfl
  have k8:=g2 0 h0 8 _ rfl
  rw [hK] at k0
  rw [hoA] at k6
  rw [hon] at k8
  exact ⟨by simpa using k0,by simpa using k6,by simpa using k8⟩
 have hoA2 : oA<=9223372036854775807:=hoA ▸ hok.a
 obtain ⟨c0,c6,c8⟩:=HRow.out w HSc.out
 have q1 : (0 : Int) < (os.length : Int):=by omega
 have hbz:=h.lt b h.zb
 have h5 : 5<=w.heap.size:=by omega
 have d0 : w.cell? ⟨b,0,none⟩ = some (.pointer (some ⟨p,0,none⟩)):=(h.sd.cell 0).trans (congrArg some h.d)
 have HDi : Hid (∀ Y,Below w.heap.size w Y->Calls Tryz.prog 60 #[.pointer (some ⟨p,0,none⟩),.int .i64 oA] Y fun e w'=>e = .returned (.tuple #[])/\SdR Z w' b s ms fl (rem + 1 + 1) p m Zd Zx Zm (D.die oA) L vh F n/\Tr Zd Y w'):=fun Y hY=>by
  refine (Die_any Zd p D oA Y (h.dk.below hY)).mono ?_
  rintro e w' ⟨he,hE,t⟩
  exact ⟨he,(h.below hY h5).like (like_die D oA hoA2) hE t,t⟩
 have HW0 : Hid (WoR W w q b0 b1 cn/\(∀ k,Z k->¬ W k)/\Vars w/\(∀ k,W k\/Z k->A<=k)/\A<=w.heap.size):=⟨hW,hd,hvs,hA,hAw⟩
 have HN : Hid (os[0].n = on):=hon
 have HNb : Hid (¬ Zd b/\¬ Zd bk):=⟨h.b1,fun hz=>by have:=hA bk (.inr (h.zd bk hz));omega⟩
 have HbA : Hid (bk < A):=hbA
 have HZ : Hid (∀ k,Z k->5<=k):=fun k hk=>(h.lt k hk).1
 clear h1 hr hs hok hrow hoA hon hbA h hW hd hvs hA hAw hbz hK
 go_enter Tryz.func34,Tryz.ntmps34
 go_upto_region 2 with (fail)
 go_cut [] from 24 to 32 (fun wx=>Hid (SdR Z wx b s ms fl (rem + 1 + 1) p m Zd Zx Zm (D.die oA) L vh F n/\Tr Z w wx))
 case first =>
  go_region_held3 (fun w'=>w'.cell? ⟨b,0,none⟩ = some (.pointer (some ⟨p,0,none⟩))/\w'.cell? ⟨bk,off + 6,none⟩ = some (.int .i64 oA))
   (first | exact ⟨k0,k6⟩ | exact ⟨d0,c6⟩)
   (first
   | (go_at_call 60;refine (HDi.out _ (by repeat (first | exact Below.refl _ _ | refine Below.drew ?_ | refine below_drewN ?_ _))).mono ?_;rintro e w5 ⟨rfl,hS,t5⟩;have k0:=cell_tr t5 (show _ = _ from d0) HNb.out.1;have k6:=cell_tr t5 (show _ = _ from c6) HNb.out.2;have HS : Hid (SdR Z w5 b s ms fl (rem + 1 + 1) p m Zd Zx Zm (D.die oA) L vh F n/\Tr Z w w5):=⟨hS,(by first | exact tr_ofDrew (t5.mono fun k _ hk=>hS.zd k hk) | exact t5.mono fun k _ hk=>hS.zd k hk)⟩;clear hS t5))
  all_goals
   go_wp2_with fail
   go_meet
   exact HS.out
 case rest =>
  rename World=>w5
  have HS5 : Hid (SdR Z w5 b s ms fl (rem + 1 + 1) p m Zd Zx Zm (D.die oA) L vh F n/\Tr Z w w5):=hcut.out
  have hop : Calls Tryz.prog 61 #[.pointer (some ⟨q,0,none⟩),.pointer (some ⟨b,0,none⟩)] w5 fun e w'=>OpensW W Z w5 q b0 b1 b (rem + 1) cn (D.die oA) e w':=by
   obtain ⟨g1,g2,g3,g4,g5⟩:=HW0.out
   exact opens_any W Z q b0 b1 cn b s ms fl (rem + 1) p m Zd Zx Zm (D.die oA) L vh F n w5 HS5.out.1 (g1.tr HS5.out.2 (fun k hk hz=>g2 k hz hk)) g2 (g3.tr HS5.out.2 (fun k hk hz=>by have:=HZ.out k hz;omega)) (by omega)
  clear hcut c0 c6 c8 d0 HDi
  go_wp2_with fail
  refine hop.mono ?_
  rintro e w6 ⟨⟨rfl,t6,W',Z',c',g1,g2,⟨s6,ms6,fl6,p6,m6,Zd6,Zx6,Zm6,D6,L6,vh6,F6,n6,h6,hcx6⟩,g4,g5,g6⟩,_⟩
  have HX6 : Hid (WoR W' w6 q b0 b1 c'/\c'<=cn + 120001/\(∀ k,Z' k->¬ W' k)/\(∀ k,W' k->W k\/w5.heap.size<=k)/\(∀ k,Z' k->Z k\/w5.heap.size<=k)/\Tr (fun k=>W k\/Z k) w5 w6):=⟨g1,g2,g4,g5,g6,t6⟩
  have HS6 : Hid (SdR Z' w6 b s6 ms6 fl6 (rem + 1) p6 m6 Zd6 Zx6 Zm6 D6 L6 vh6 F6 n6/\(s6.cr = true->s6.x = .pointer none)):=⟨h6,hcx6⟩
  have hx6:=h6.xs hcx6
  have c4 : w6.cell? ⟨b,4,none⟩ = some s6.x:=(h6.sd.cell 4).trans rfl
  have HT6 : Hid (Tr (fun k=>W k\/Z k) w w6):=(HS5.out.2.mono fun k _ hk=>.inr hk).trans t6
  have d6 : w6.cell? ⟨b,0,none⟩ = some (.pointer (some ⟨p6,0,none⟩)):=(h6.sd.cell 0).trans (congrArg some h6.d)
  clear hop g1 g2 g4 g5 g6 t6 h6 hcx6
  rcases hx6 with hx6 | ⟨x,hx6⟩
  ·rw [hx6] at c4
   have hs6 : Scr w6 A (.slice (some ⟨bk,off,none⟩) os.length cap) os:=HSc.out.tr (HT6.out.mono fun k _ hk=>HW0.out.2.2.2.1 k hk)
   obtain ⟨_,_,e8⟩:=HRow.out w6 hs6
   obtain ⟨keep,n1,n2,n3,n4⟩:=(hs6.ok os[0] (List.getElem_mem h0)).n
   rw [HN.out] at n1 n2
   have HNb6 : Hid (¬ Zd6 b/\¬ Zd6 bk):=⟨HS6.out.1.b1,fun hz=>by
    have hb:=HbA.out
    have hz:=HS6.out.1.zd bk hz
    obtain ⟨f1,f2,f3,f4,f5⟩:=HW0.out
    have hs5:=HS5.out.2.size
    rcases HX6.out.2.2.2.2.1 bk hz with h | h
    ·have:=f4 bk (.inr h);omega
    ·omega⟩
   have HB6 : Hid (b < w6.heap.size/\bk < w6.heap.size):=⟨(HS6.out.1.lt b HS6.out.1.zb).2,by have:=HbA.out;have:=HW0.out.2.2.2.2;have:=HT6.out.size;omega⟩
   have HCr : Hid (∀ Y,Below w6.heap.size w6 Y->Calls Tryz.prog 16 #[.pointer (some ⟨p6,0,none⟩),on] Y fun e w'=>e = .returned (.tuple #[])/\SdAt w' b s6/\(∀ k,k < Y.heap.size->¬ Zd6 k->w'.heap[k]? = Y.heap[k]?) /\
     Calls Tryz.prog 61 #[.pointer (some ⟨q,0,none⟩),.pointer (some ⟨b,0,none⟩)] (w'.setCell ⟨b,11,none⟩ (.bool true)) fun e w2=>StepW W Z w q b0 b1 b rem cn 240002 e w2/\∃ x,w2.cell? ⟨b,4,none⟩ = some (.pointer (some ⟨x,0,none⟩))):=fun Y hY=>by
    obtain ⟨f1,f2,f3,f4,f5,f6⟩:=HX6.out
    obtain ⟨u1,u2,u3,u4,u5⟩:=HW0.out
    have hs5:=HS5.out.2.size
    have hs6':=f6.size
    have hYs:=hY.size
    have h5' : 5<=w6.heap.size:=by omega
    have tY : Tr (fun k=>W k\/Z k) w Y:=HT6.out.trans (below_tr hY _)
    have hvY : Vars Y:=u3.tr tY (fun k hk hh=>by
     rcases hh with hh | hh
     ·have:=(u1.five k hh).1;omega
     ·have:=HZ.out k hh;omega)
    refine (crash_opens (HS6.out.1.below hY h5') (f1.below hY) f3 hvY (by omega) on keep (n1.below hY) (fun h0' k hk=>?_) n3 n4).mono ?_
    ·have hk : k < A:=n2 h0' k hk
     refine ⟨fun hz=>?_,by omega⟩
     rcases f5 k hz with h | h
     ·have:=u4 k (.inr h);omega
     ·omega
    ·rintro e w' ⟨a1,a2,a3,a4⟩
     refine ⟨a1,a2,fun k hk hz=>a3 k hk hz,a4.mono ?_⟩
     rintro e2 w2 ⟨b2,b3⟩
     exact ⟨(b2.trans tY f2 (fun k hk=>(f4 k hk).imp (fun h=>h) (fun h=>by omega)) (fun k hk=>(f5 k hk).imp (fun h=>h) (fun h=>by omega))).less (Nat.le_refl _) (by omega),b3⟩
   clear n1 n2 n3 n4 hs6
   go_upto_region 6 with (fail)
   go_cut [] from 46 to 54 (fun wx=>Hid (SdAt wx b s6/\Calls Tryz.prog 61 #[.pointer (some ⟨q,0,none⟩),.pointer (some ⟨b,0,none⟩)] (wx.setCell ⟨b,11,none⟩ (.bool true)) fun e w2=>StepW W Z w q b0 b1 b rem cn 240002 e w2/\∃ x,w2.cell? ⟨b,4,none⟩ = some (.pointer (some ⟨x,0,none⟩))))
   case first =>
    go_region_held3 (fun w'=>w'.cell? ⟨b,0,none⟩ = some (.pointer (some ⟨p6,0,none⟩))/\w'.cell? ⟨bk,off + 8,none⟩ = some on)
     (first | exact ⟨k0,k8⟩ | exact ⟨d6,e8⟩)
     (first
     | (go_at_call 16;refine (HCr.out _ (by repeat (first | exact Below.refl _ _ | refine Below.drew ?_ | refine below_drewN ?_ _))).mono ?_;rintro e w7 ⟨rfl,hs7,ht7,hop7⟩;have k0 : w7.cell? ⟨b,0,none⟩ = some (.pointer (some ⟨p6,0,none⟩)):=(cell_eq (ht7 b (HB6.out.1) HNb6.out.1)).trans d6;have k8 : w7.cell? ⟨bk,off + 8,none⟩ = some on:=(cell_eq (ht7 bk HB6.out.2 HNb6.out.2)).trans e8;have HS : Hid (SdAt w7 b s6/\Calls Tryz.prog 61 #[.pointer (some ⟨q,0,none⟩),.pointer (some ⟨b,0,none⟩)] (w7.setCell ⟨b,11,none⟩ (.bool true)) fun e w2=>StepW W Z w q b0 b1 b rem cn 240002 e w2/\∃ x,w2.cell? ⟨b,4,none⟩ = some (.pointer (some ⟨x,0,none⟩))):=⟨hs7,hop7⟩;clear hs7 hop7 ht7))
    all_goals
     go_wp2_with fail
     go_meet
     exact HS.out
   case rest =>
    rename World=>w7
    obtain ⟨hs7,hop⟩:=hcut.out
    have HO : Hid (Calls Tryz.prog 61 #[.pointer (some ⟨q,0,none⟩),.pointer (some ⟨b,0,none⟩)] (w7.setCell ⟨b,11,none⟩ (.bool true)) fun e w2=>StepW W Z w q b0 b1 b rem cn 240002 e w2/\∃ x,w2.cell? ⟨b,4,none⟩ = some (.pointer (some ⟨x,0,none⟩))):=hop
    have c11 : w7.cell? ⟨b,11,none⟩ = some (.bool s6.cr):=(hs7.cell 11).trans rfl
    have fz:=hs7.frozen
    clear hs7 hop hcut d6 e8 c4
    go_upto_region 8 with (fail)
    obtain ⟨W8,hW8,HO8⟩ : ∃ W8,w7.setCell ⟨b,11,none⟩ (.bool true) = W8/\Hid (Calls Tryz.prog 61 #[.pointer (some ⟨q,0,none⟩),.pointer (some ⟨b,0,none⟩)] W8 fun e w2=>StepW W Z w q b0 b1 b rem cn 240002 e w2/\∃ x,w2.cell? ⟨b,4,none⟩ = some (.pointer (some ⟨x,0,none⟩))):=⟨_,rfl,HO.out⟩
    rw [hW8]
    clear hW8 c11 fz HO
    go_wp2_with fail
    refine HO8.out.mono ?_
    rintro e w9 ⟨⟨rfl,hS⟩,x,hx⟩
    have HF : Hid (StepW W Z w q b0 b1 b rem cn 240002 (.returned (.bool true)) w9):=⟨rfl,hS⟩
    clear hS HO8
    go_wp2
    first | exact HF.out | (go_ret;exact HF.out)
  ·rw [hx6] at c4
   have HF : Hid (StepW W Z w q b0 b1 b rem cn 240002 (.returned (.bool true)) w6):=by
    obtain ⟨f1,f2,f3,f4,f5,f6⟩:=HX6.out
    have hs5:=HS5.out.2.size
    refine ⟨rfl,HT6.out,W',Z',c',f1,by omega,SdE.less ⟨_,_,_,_,_,_,_,_,_,_,_,_,_,HS6.out.1,HS6.out.2⟩ (by omega),f3,fun k hk=>(f4 k hk).imp (fun h=>h) (fun h=>by omega),fun k hk=>(f5 k hk).imp (fun h=>h) (fun h=>by omega)⟩
   go_wp2
   go_ret
   exact HF.out
end Go.Proofs.YtilkdeghknjjhaaGreatDoor
namespace Go.Proofs.YtilkdeghknjjhaaGreatDoor
open Go.RowKit M Go.Maps
theorem open_nil (nd ev r : Int) (w : World) :
  Calls Tryz.prog 48 #[.pointer none,.agg #[.int .i64 nd,.int .i64 ev,.int .i64 r]] w fun e w'=>e = .returned (.tuple #[.pointer none,.int .i64 1])/\Below w.heap.size w w':=by
 go_enter Tryz.func48,Tryz.ntmps48
 go_wp2
 go_ret2
 exact ⟨rfl,(Below.refl _ _).alloc (Nat.le_refl _) _⟩
theorem open_bad (d : Addr) (nd ev r : Int) (w : World) (ho : optOK nd ev r = false) :
  Calls Tryz.prog 48 #[.pointer (some d),.agg #[.int .i64 nd,.int .i64 ev,.int .i64 r]] w fun e w'=>e = .returned (.tuple #[.pointer none,.int .i64 1])/\Below w.heap.size w w':=by
 obtain ⟨W1,hW1,HB1,Hrow⟩ : ∃ W1,w.alloc (.cells #[.int .i64 nd,.int .i64 ev,.int .i64 r] 23) = W1/\Hid (Below w.heap.size w W1)/\Hid (W1.heap[w.heap.size]? = some (.cells #[.int .i64 nd,.int .i64 ev,.int .i64 r] 23 (0,0))) :=
  ⟨_,rfl,(Below.refl _ _).alloc (Nat.le_refl _) _,heap_alloc_new w _⟩
 have HAr : Hid (∀ X,Calls Tryz.prog 84 #[.agg #[.int .i64 nd,.int .i64 ev,.int .i64 r]] X fun e w'=>e = .returned (.bool false)/\Below X.heap.size X w'):=fun X=>by
  have:=areOptions_any nd ev r X
  rw [ho] at this
  exact this
 have hcell : ∀ o,W1.cell? ⟨w.heap.size,o,none⟩ = #[Value.int .i64 nd,.int .i64 ev,.int .i64 r][o]?:=fun o=>by rw [cell_of_row _ _ _ _ _ _ Hrow.out]
 have c0 : W1.cell? ⟨w.heap.size,0,none⟩ = some (.int .i64 nd):=(hcell 0).trans rfl
 have c1 : W1.cell? ⟨w.heap.size,1,none⟩ = some (.int .i64 ev):=(hcell 1).trans rfl
 have c2 : W1.cell? ⟨w.heap.size,2,none⟩ = some (.int .i64 r):=(hcell 2).trans rfl
 clear hcell ho
 go_enter Tryz.func48,Tryz.ntmps48
 go_upto_region 1 with (fail)
 clear hW1
 go_wp2_with fail
 refine (HAr.out _).mono ?_
 rintro e w2 ⟨rfl,hb2⟩
 go_wp2
 go_ret2
 exact ⟨rfl,belowN HB1.out hb2⟩
theorem alloc2_fst (w : World) (a b : Obj) : ((w.alloc a).alloc b).heap[w.heap.size]? = some a:=(Below.heap_alloc (w.alloc a) b w.heap.size (by simp)).trans (heap_alloc_new w a)
theorem alloc2_snd (w : World) (a b : Obj) : ((w.alloc a).alloc b).heap[w.heap.size + 1]? = some b:=by
 have h:=heap_alloc_new (w.alloc a) b
 have e : (w.alloc a).heap.size = w.heap.size + 1:=by simp
 rw [e] at h;exact h
def bentO (n e r : Int) : Int × Int × Int:=if optOK n e r = true then (n,e,r) else (pickF n 16,pickF e 101,400 + pickF r 99601)
theorem bentO_ok (n e r : Int) : optOK (bentO n e r).1 (bentO n e r).2.1 (bentO n e r).2.2 = true:=by
 unfold bentO
 split
 ·assumption
 ·have h1:=pickF_rng n 16 (by omega)
  have h2:=pickF_rng e 101 (by omega)
  have h3:=pickF_rng r 99601 (by omega)
  unfold optOK
  simp
  omega
theorem optOK_iff (n e r : Int) : optOK n e r = true ↔ OptOK n e r:=by
 unfold optOK OptOK
 simp
 omega
def BegunE (w : World) (cap n e r : Int) (en : Ending) (w' : World) : Prop:=∃ d m b : Nat,en = .returned (.tuple #[.pointer (some ⟨b,0,none⟩),.bool true]) /\
 SdAt w' b ⟨.pointer (some ⟨d,0,none⟩),(bentO n e r).1,(bentO n e r).2.1,(bentO n e r).2.2,.pointer none,.pointer (some ⟨m,0,none⟩),.slice none 0 0,0,0,false,false,false,false,⟨#[0]⟩⟩ /\
 DiskAt (fun k=>w.heap.size < k/\k < m) w' d (Dk.new cap)/\w'.heap[m]? = some (.cells #[.int .i64 (bentO n e r).1,.slice none 0 0] 132 (0,0))/\m < b/\w.heap.size < d/\d < m/\Below w.heap.size w w'
theorem begun_any (cap n e r : Int) (w : World) (h1 : R64 n) (h2 : R64 e) (h3 : R64 r) :
  Calls Tryz.prog 33 #[.int .i64 cap,.agg #[.int .i64 n,.int .i64 e,.int .i64 r]] w fun en w'=>BegunE w cap n e r en w':=by
 obtain ⟨W,hW,HB,Hrow,HsW⟩ : ∃ W,w.alloc (.cells #[.int .i64 n,.int .i64 e,.int .i64 r] 23) = W/\Hid (Below w.heap.size w W)/\Hid (W.heap[w.heap.size]? = some (.cells #[.int .i64 n,.int .i64 e,.int .i64 r] 23 (0,0)))/\Hid (W.heap.size = w.heap.size + 1) :=
  ⟨_,rfl,(Below.refl _ _).alloc (Nat.le_refl _) _,heap_alloc_new w _,by show _ = _;simp⟩
 have HRO : Hid (∀ X,Calls Tryz.prog 58 #[.agg #[.int .i64 n,.int .i64 e,.int .i64 r]] X fun en w'=>en = .returned (.bool (optOK n e r))/\Below X.heap.size X w'):=fun X=>(refOptions_any n e r X).mono fun en w' ⟨q,he,hq,hb⟩=>⟨by rw [he,Bool.eq_iff_iff.2 (hq.trans (optOK_iff n e r).symm)],hb⟩
 have HNew : Hid (∀ X,Calls Tryz.prog 23 #[.int .i64 cap] X fun en w'=>en = .returned (.pointer (some ⟨X.heap.size,0,none⟩))/\DiskAt (fun k=>X.heap.size<=k) w' X.heap.size (Dk.new cap)/\Below X.heap.size X w'):=fun X=>New_any (fun k=>X.heap.size<=k) cap X (fun k hk=>hk)
 have HC : Hid (∀ (X : World) (n e r : Int),X.heap[w.heap.size]? = some (.cells #[.int .i64 n,.int .i64 e,.int .i64 r] 23 (0,0))->X.cell? ⟨w.heap.size,0,none⟩ = some (.int .i64 n)/\X.cell? ⟨w.heap.size,1,none⟩ = some (.int .i64 e)/\X.cell? ⟨w.heap.size,2,none⟩ = some (.int .i64 r)):=fun X n e r h=>by
  have hcell : ∀ o,X.cell? ⟨w.heap.size,o,none⟩ = #[Value.int .i64 n,.int .i64 e,.int .i64 r][o]?:=fun o=>by rw [cell_of_row _ _ _ _ _ _ h]
  exact ⟨(hcell 0).trans rfl,(hcell 1).trans rfl,(hcell 2).trans rfl⟩
 obtain ⟨c0,c1,c2⟩:=HC.out W n e r Hrow.out
 go_enter Tryz.func33,Tryz.ntmps33
 go_upto_region 1 with (fail)
 clear hW
 go_wp2_with fail
 refine (HRO.out W).mono ?_
 rintro en w2 ⟨rfl,b2⟩
 go_wp2_with fail
 refine (HNew.out w2).mono ?_
 rintro en w3 ⟨rfl,hD,b3⟩
 have hR3:=heap_later (belowN b2 b3) Hrow.out
 obtain ⟨e0,e1,e2⟩:=HC.out w3 n e r hR3
 have HD : Hid (DiskAt (fun k=>w2.heap.size<=k/\k < w3.heap.size) w3 w2.heap.size (Dk.new cap)/\Below W.heap.size W w3/\W.heap.size<=w2.heap.size/\w2.heap.size<=w3.heap.size/\w3.heap[w.heap.size]? = some (.cells #[.int .i64 n,.int .i64 e,.int .i64 r] 23 (0,0))):=⟨hD.close,belowN b2 b3,b2.size,b3.size,hR3⟩
 obtain ⟨ok,hok⟩ : ∃ x,optOK n e r = x:=⟨_,rfl⟩
 rw [hok]
 have HOk : Hid (optOK n e r = ok):=hok
 clear hok c0 c1 c2 b2 b3 hD hR3 HNew HRO
 go_upto_if 18 with (fail)
 go_cut [] from 19 to 32 (fun wx=>Hid (Tr (fun k=>k = w.heap.size) w3 wx/\wx.heap[w.heap.size]? = some (.cells #[.int .i64 (bentO n e r).1,.int .i64 (bentO n e r).2.1,.int .i64 (bentO n e r).2.2] 23 (0,0))))
 case first =>
  cases ok
  ·have HBe : Hid (bentO n e r = (pickF n 16,pickF e 101,400 + pickF r 99601)):=by show bentO n e r = _;unfold bentO;rw [HOk.out];simp
   have HOp : Hid (∀ X,Calls Tryz.prog 48 #[.pointer (some ⟨w2.heap.size,0,none⟩),.agg #[.int .i64 n,.int .i64 e,.int .i64 r]] X fun en w'=>en = .returned (.tuple #[.pointer none,.int .i64 1])/\Below X.heap.size X w'):=fun X=>open_bad _ n e r X HOk.out
   have HBt : Hid (∀ X,Calls Tryz.prog 59 #[.agg #[.int .i64 n,.int .i64 e,.int .i64 r]] X fun en w'=>en = .returned (.agg #[.int .i64 (pickF n 16),.int .i64 (pickF e 101),.int .i64 (400 + pickF r 99601)])/\Below X.heap.size X w'):=fun X=>bent_any n e r X h1 h2 h3
   obtain ⟨y1,hy1⟩ : ∃ x,pickF n 16 = x:=⟨_,rfl⟩
   obtain ⟨y2,hy2⟩ : ∃ x,pickF e 101 = x:=⟨_,rfl⟩
   obtain ⟨y3,hy3⟩ : ∃ x,400 + pickF r 99601 = x:=⟨_,rfl⟩
   rw [hy1,hy2,hy3] at HBe HBt
   clear hy1 hy2 hy3 h1 h2 h3
   go_wp2_with fail
   refine (HOp.out w3).mono ?_
   rintro en w4 ⟨rfl,b4⟩
   have hR4:=heap_later b4 HD.out.2.2.2.2
   obtain ⟨g0,g1,g2⟩:=HC.out w4 n e r hR4
   clear e0 e1 e2
   go_wp2_with fail
   refine (HBt.out w4).mono ?_
   rintro en w5 ⟨rfl,b5⟩
   have HR5 : Hid (w5.heap[w.heap.size]? = some (.cells #[.int .i64 n,.int .i64 e,.int .i64 r] 23 (0,0))):=heap_later b5 hR4
   have B5 : Below w3.heap.size w3 w5:=belowN b4 b5
   clear g0 g1 g2 hR4 b4 b5
   go_wp2_with (first
    | (refine wpList_store_row rfl 23 _ _ rfl w.heap.size #[.int .i64 y1,.int .i64 y2,.int .i64 y3] rfl rfl 23 #[.int .i64 n,.int .i64 e,.int .i64 r] HR5.out infoOpt rfl (by simp [Value.oneCell']) ?_)
    | fail)
   go_meet
   show _/\_
   rw [HBe.out]
   refine ⟨⟨B5.os,B5.tape,B5.output,by have:=B5.size;simp [World.setRow];exact this,fun i hi hz=>(setRow_other w5 w.heap.size i _ (fun e=>hz e)).trans (B5.block i hi)⟩,setRow_heap _ _ _ _ _ _ HR5.out⟩
  ·have HBe : Hid (bentO n e r = (n,e,r)):=by show bentO n e r = _;unfold bentO;rw [HOk.out];simp
   go_wp2
   go_meet
   show _/\_
   rw [HBe.out]
   exact ⟨Tr.refl _ _,HD.out.2.2.2.2⟩
 case rest =>
  obtain ⟨hT,hR⟩:=hcut.out
  obtain ⟨⟨y1,y2,y3⟩,hy⟩ : ∃ x,bentO n e r = x:=⟨_,rfl⟩
  rw [hy] at hR
  have hR : wc.heap[w.heap.size]? = some (.cells #[.int .i64 y1,.int .i64 y2,.int .i64 y3] 23 (0,0)):=hR
  obtain ⟨g0,g1,g2⟩:=HC.out wc y1 y2 y3 hR
  have HT : Hid (Tr (fun k=>k = w.heap.size) w3 wc/\wc.heap[w.heap.size]? = some (.cells #[.int .i64 y1,.int .i64 y2,.int .i64 y3] 23 (0,0))/\bentO n e r = (y1,y2,y3)):=⟨hT,hR,hy⟩
  have HNi : Hid (∀ X,Calls Tryz.prog 48 #[.pointer none,.agg #[.int .i64 y1,.int .i64 y2,.int .i64 y3]] X fun en w'=>en = .returned (.tuple #[.pointer none,.int .i64 1])/\Below X.heap.size X w'):=fun X=>open_nil y1 y2 y3 X
  clear hT hR hy e0 e1 e2 hcut
  go_wp2_with fail
  refine (HNi.out wc).mono ?_
  rintro en w6 ⟨rfl,b6⟩
  have hR6:=heap_later b6 HT.out.2.1
  obtain ⟨f0,f1,f2⟩:=HC.out w6 y1 y2 y3 hR6
  have HB6 : Hid (Below wc.heap.size wc w6):=b6
  clear g0 g1 g2 b6 hR6
  go_wp2
  go_ret2
  obtain ⟨D0,D1,D2,D3,_⟩:=HD.out
  have s1:=HsW.out
  have hlt : w2.heap.size < w3.heap.size:=by obtain ⟨_,_,_,_,h⟩:=D0;exact h.zp.2
  have t1:=HT.out.1
  have s2:=t1.size
  have s3:=HB6.out.size
  have hy:=HT.out.2.2
  have bw3 : Below w.heap.size w w3:=belowN HB.out D1
  have bwc : Below w.heap.size w wc:=bw3.trans (t1.below (by have:=bw3.size;omega) (fun k hk hz=>by have hz : k = w.heap.size:=hz;omega))
  refine ⟨w2.heap.size,w6.heap.size,w6.heap.size + 1,rfl,?_,?_,?_,by omega,by omega,by omega,((belowN bwc HB6.out).alloc (belowN bwc HB6.out).size _).alloc (by simp;have:=(belowN bwc HB6.out).size;omega) _⟩
  ·rw [hy];exact alloc2_snd w6 _ _
  ·have hd:=(((D0.tr t1 (fun k hk hz=>by have hz : k = w.heap.size:=hz;omega)).below HB6.out).below ((Below.refl _ _).alloc (Nat.le_refl _) (.cells #[.int .i64 y1,.slice none 0 0] 132))).below ((Below.refl _ _).alloc (Nat.le_refl _) (.cells (Sd.row ⟨.pointer (some ⟨w2.heap.size,0,none⟩),y1,y2,y3,.pointer none,.pointer (some ⟨w6.heap.size,0,none⟩),.slice none 0 0,0,0,false,false,false,false,⟨#[0]⟩⟩) 134))
   exact hd.mono fun k hk=>by omega
  ·rw [hy];exact alloc2_fst w6 _ _
end Go.Proofs.YtilkdeghknjjhaaGreatDoor
namespace Go.Proofs.YtilkdeghknjjhaaGreatDoor
open Go.RowKit M Go.Maps
variable {w w' : World} {W Z Zd Zx Zm : Nat->Prop} {q b0 b1 b rem p m A : Nat} {s : Sd} {ms fl : List Mt} {D : Dk} {L F : List MuV} {vh : Value}
theorem jd_new0 (c : Int) : JD (Dk.new c) [] 0 0 false true 0 :=
 ⟨0,fun _=>0,fun _=>[],fun _=>[],⟨Nat.le_refl _,Nat.le_refl _,List.Pairwise.nil,List.Pairwise.nil,fun x=>⟨fun h=>by simp [Dk.new] at h,fun ⟨i,h1,h2,_⟩=>by omega⟩,fun x=>⟨fun h=>by simp [Dk.new] at h,fun ⟨i,h1,h2,_⟩=>by omega⟩,rfl,fun i j h1 h2=>by omega,fun i h1 h2=>by omega,fun i h1 h2=>by omega,fun i h1 h2=>by omega,fun i h1 h2=>by omega,fun i h1 h2=>by omega,fun i h1 h2=>by omega⟩,rfl,⟨0,Nat.zero_le _,fun _=>rfl,fun h=>by omega⟩,fun h=>by omega,fun _ h=>by omega⟩
theorem new_bud (c : Int) (k : Nat) (hk : k<=1000000000) : (Dk.new c).Bud k:=⟨by show (0 : Int) + _<=_;omega,by show 0 + _<=_;omega,by show 0 + _<=_;omega,by show 0 + _<=_;omega⟩
theorem new_sound (c : Int) : (Dk.new c).Sound:=⟨by show (-1 : Int) < 0;omega,by show (-1 : Int) < 0;omega⟩
def BegunS (w : World) (cap n e r : Int) (en : Ending) (w' : World) : Prop:=∃ (d m b : Nat) (s : Sd) (Zd Zx Zm : Nat->Prop),en = .returned (.tuple #[.pointer (some ⟨b,0,none⟩),.bool true])/\Below w.heap.size w w' /\
 (∀ rem,rem<=120000->SdR (fun k=>w.heap.size<=k/\k < w'.heap.size) w' b s [] [] rem d m Zd Zx Zm (Dk.new cap) [] (.slice none 0 0) [] 0)
theorem begun_side {cap n e r : Int} {en : Ending} (h : BegunE w cap n e r en w') (hv : Vars w) (c0 : -9223372036854775808<=cap) (c1 : cap<=9223372036854775807) : BegunS w cap n e r en w':=by
 obtain ⟨d,m,b,he,hs,hD,hm,hmb,hwd,hdm,hb⟩:=h
 have h5:=hv.five
 have hbl : b < w'.heap.size:=(Array.getElem?_eq_some_iff.1 hs).1
 refine ⟨d,m,b,⟨.pointer (some ⟨d,0,none⟩),(bentO n e r).1,(bentO n e r).2.1,(bentO n e r).2.2,.pointer none,.pointer (some ⟨m,0,none⟩),.slice none 0 0,0,0,false,false,false,false,⟨#[0]⟩⟩,fun k=>w.heap.size < k/\k < m,fun _=>False,fun k=>k = m,he,hb,fun rem hr=>?_⟩
 refine ⟨hs,rfl,rfl,hD,⟨⟨[],0,⟨Dk.WF.new cap c0 c1,trivial,0,0,false,(jd_new0 cap).less⟩,List.prefix_refl _,fun _=>Nat.le_refl _,Int.le_refl _,Nat.le_refl _⟩,new_bud _ _ (by omega)⟩,?_,.none rfl,bentO_ok n e r,fun k hk=>⟨by omega,by omega⟩,fun k hk=>hk.elim,fun k hk=>⟨by omega,by omega⟩,⟨by omega,hbl⟩,fun k _ hk=>hk,fun k hk e=>by omega,fun k hk=>hk.elim,fun hk=>by omega,fun hk=>hk,fun hk=>by omega,fun k hk=>⟨by omega,hk.2⟩,by simp;omega,by omega,Int.le_refl _,Int.le_refl _,Int.le_refl _,Int.le_refl _,(by show (1 : Nat)<=1000000;omega)⟩
 refine ⟨⟨rfl,hm,⟨rfl,.inl ⟨rfl,rfl⟩⟩,fun y hy=>by simp at hy,fun k hk=>(by cases hk),fun y hy=>by simp at hy⟩,fun y hy=>by simp at hy,rfl,⟨rfl,.inl ⟨rfl,rfl⟩⟩,fun k hk=>(by cases hk),fun y hy=>by simp at hy,fun y hy=>by simp at hy,fun y hy=>by simp at hy,rfl,by simp,fun _=>rfl⟩
theorem first_any {cn : Nat} {n : Nat} {vs : Value} {os : List OpV}
  (h : SdR Z w b s ms fl (rem + 1 + 1) p m Zd Zx Zm D L vh F n) (hso : D.Sound) (hW : WoR W w q b0 b1 cn) (hd : ∀ k,Z k->¬ W k) (hvs : Vars w) (hc : cn + 240002<=20000000000) (up : Int) (hs : Scr w A vs os) (hA : ∀ k,W k\/Z k->A<=k) (hAw : A<=w.heap.size) :
  Calls Tryz.prog 34 #[.pointer (some ⟨q,0,none⟩),.pointer (some ⟨b,0,none⟩),vs,.int .i64 up] w fun e w'=>StepW W Z w q b0 b1 b rem cn 240002 e w':=by
 have hp : (os = []\/up < 10\/∀ (h : 0 < os.length),os[0].K ≠ 10)->Calls Tryz.prog 34 #[.pointer (some ⟨q,0,none⟩),.pointer (some ⟨b,0,none⟩),vs,.int .i64 up] w fun e w'=>StepW W Z w q b0 b1 b rem cn 240002 e w':=fun hno =>
  first_plain up hs hno ((opens_any W Z q b0 b1 cn b s ms fl (rem + 1) p m Zd Zx Zm D L vh F n w h hW hd hvs (by omega)).mono fun e w' hO=>⟨hO.1.1,(hO.1.1 ▸ hO.1.less (by omega) (by omega)),hO.2 hso⟩)
 by_cases h0 : 0 < os.length
 ·by_cases hK : os[0].K = 10
  ·by_cases hu : up < 10
   ·exact hp (.inr (.inl hu))
   ·exact first_die h hW hd hvs hc up hs h0 hK (by omega) hA hAw
  ·exact hp (.inr (.inr fun _=>hK))
 ·exact hp (.inl (List.length_eq_zero_iff.1 (by omega)))
theorem WoR.looks {c : Nat} (h : WoR W w q b0 b1 c) (hc : c<=20000000000) : Calls Tryz.prog 36 #[.pointer (some ⟨q,0,none⟩)] w fun e w'=>e = .returned (.bool true)/\Below w.heap.size w w':=by
 obtain ⟨L,M,v,u,h1,h2,h3,h4⟩:=h
 exact looks_any W q _ _ L M v u w h1 (by omega) (by omega)
theorem SdE.below (h : SdE Z w b rem) (t : Below w.heap.size w w') (h5 : 5<=w.heap.size) : SdE Z w' b rem:=by
 obtain ⟨s,ms,fl,p,m,Zd,Zx,Zm,D,L,vh,F,n,h,hc⟩:=h
 exact ⟨s,ms,fl,p,m,Zd,Zx,Zm,D,L,vh,F,n,h.below t h5,hc⟩
theorem Game.below {c : Nat} (h : Game w q b0 b1 rem c A) (t : Below w.heap.size w w') : Game w' q b0 b1 rem c A:=by
 obtain ⟨W,Z0,Z1,h1,h2,h3,h4,h5,h6,h7,h8,h9,h10⟩:=h
 exact ⟨W,Z0,Z1,h1.below t,h2.below t h7.five,h3.below t h7.five,h4,h5,h6,h7.below t,h8,Nat.le_trans h9 t.size,h10⟩
theorem Game.less {r c : Nat} (h : Game w q b0 b1 rem c A) (hr : r<=rem) : Game w q b0 b1 r c A:=by
 obtain ⟨W,Z0,Z1,h1,h2,h3,h4⟩:=h
 exact ⟨W,Z0,Z1,h1,h2.less hr,h3.less hr,h4⟩
theorem Game.looks {c : Nat} (h : Game w q b0 b1 rem c A) (hc : c<=20000000000) : Calls Tryz.prog 36 #[.pointer (some ⟨q,0,none⟩)] w fun e w'=>e = .returned (.bool true)/\Below w.heap.size w w':=by
 obtain ⟨W,Z0,Z1,h1,_⟩:=h
 exact h1.looks hc
theorem wor_new (h : w.heap[q]? = some (.cells #[.pointer (some ⟨b0,0,none⟩),.pointer (some ⟨b1,0,none⟩),.slice none 0 0,.slice none 0 0] 74 (0,0))) (h5 : 5<=q) : WoR (fun k=>k = q) w q b0 b1 0:=by
 have hq : q < w.heap.size:=(Array.getElem?_eq_some_iff.1 h).1
 refine ⟨[],[],.slice none 0 0,.slice none 0 0,⟨rfl,h,⟨rfl,.inl ⟨rfl,rfl⟩⟩,⟨rfl,.inl ⟨rfl,rfl⟩⟩,fun i hi=>by simp at hi,fun i hi=>by simp at hi,fun k hk=>(by cases hk),fun k hk=>(by cases hk),.inl rfl,fun i hi=>by simp at hi,fun i hi=>by simp at hi⟩,rfl,rfl,fun k hk=>?_⟩
 subst hk
 exact ⟨h5,hq⟩
theorem both_first {N : Nat} {Z0 Z1 : Nat->Prop} {w1 w2 : World} {e1 e2 : Ending} {c : Nat} (hW : WoR W w q b0 b1 0) (hz0 : ∀ k,Z0 k->5<=k/\k < w.heap.size) (f0 : StepW W Z0 w q b0 b1 b0 N 0 240002 e1 w1)
  (d0 : ∀ k,Z0 k->¬ W k) (d1 : ∀ k,Z1 k->¬ W k) (d2 : ∀ k,Z0 k->¬ Z1 k) (hz1 : ∀ k,Z1 k->5<=k/\k < w.heap.size) (hv : Vars w) (hA : ∀ k,W k\/Z0 k\/Z1 k->A<=k) (hAw : A<=w.heap.size) (h5 : 5<=A)
  {n : Nat} (h1 : SdR Z1 w b1 s ms fl rem p m Zd Zx Zm D L vh F n) :
  e1 = .returned (.bool true)/\Tr (fun k=>A<=k) w w1/\∃ (W' : Nat->Prop) (c' : Nat),WoR W' w1 q b0 b1 c'/\c'<=240002/\SdR Z1 w1 b1 s ms fl rem p m Zd Zx Zm D L vh F n/\(∀ k,Z1 k->¬ W' k)/\Vars w1/\(∀ k,W' k\/Z1 k->A<=k)/\A<=w1.heap.size /\
   (∀ (e : Ending) (w2 : World),StepW W' Z1 w1 q b0 b1 b1 N c' 240002 e w2->GameE w1 q b0 b1 N c' 240002 A e w2):=by
 obtain ⟨he,t,W',Z',c',g1,g2,g3,g4,g5,g6⟩:=f0
 have hw:=hW.five
 have hx5 : ∀ k,W k\/Z0 k->5<=k:=fun k hk=>hk.elim (fun h=>(hw k h).1) (fun h=>(hz0 k h).1)
 have hv1 : Vars w1:=hv.tr t (fun k hk hh=>by have:=hx5 k hh;omega)
 have dw : ∀ k,Z1 k->¬ W' k:=fun k hk hh=>by
  rcases g5 k hh with h | h
  ·exact d1 k hk h
  ·have:=(hz1 k hk).2;omega
 have dz : ∀ k,Z' k->¬ Z1 k:=fun k hk hh=>by
  rcases g6 k hk with h | h
  ·exact d2 k h hh
  ·have:=(hz1 k hh).2;omega
 have hA1 : ∀ k,W' k\/Z' k\/Z1 k->A<=k:=fun k hk=>by
  rcases hk with hk | hk | hk
  ·rcases g5 k hk with h | h
   ·exact hA k (.inl h)
   ·omega
  ·rcases g6 k hk with h | h
   ·exact hA k (.inr (.inl h))
   ·omega
  ·exact hA k (.inr (.inr hk))
 have hts:=t.size
 refine ⟨he,t.mono fun k _ hk=>hA k (hk.imp (fun h=>h) .inl),W',c',g1,by omega,h1.tr t (fun k hk hh=>hh.elim (d1 k hk) (fun hz=>d2 k hz hk)) hx5,dw,hv1,fun k hk=>hA1 k (hk.imp (fun h=>h) .inr),by omega,fun e w2 hS=>?_⟩
 exact hS.game1 g1 (fun k hk=>⟨(hz1 k hk).1,by have:=(hz1 k hk).2;omega⟩) g3 g4 dw dz hv1 hA1 (by omega) h5
end Go.Proofs.YtilkdeghknjjhaaGreatDoor
namespace Go.Proofs.YtilkdeghknjjhaaGreatDoor
open Go.RowKit M Go.Maps
variable {c8 k : Nat}
theorem plus1 {a b c : Nat} (h : c<=a + b * k) (h2 : c8<=c + b) : c8<=a + b * (k + 1):=by
 rw [Nat.mul_succ];omega
theorem upto2 {c N : Nat} (h : c<=480004 + 120001 * k) (h2 : c8<=c + 120001) (hN : N<=110000) (hk : k < N) : c8<=20000000000:=by omega
theorem tdiv2_rng {c : Int} (h0 : -9223372036854775808<=c) (h1 : c<=9223372036854775807) : -9223372036854775808<=c.tdiv 2/\c.tdiv 2<=9223372036854775807:=by
 by_cases h : 0<=c
 ·rw [Int.tdiv_eq_ediv_of_nonneg h];omega
 ·have e : c.tdiv 2 = -((-c).tdiv 2):=by rw [Int.neg_tdiv,Int.neg_neg]
  rw [e,Int.tdiv_eq_ediv_of_nonneg (by omega)];omega
def PlayL (q b0 b1 N A : Nat) (w0 : World) (i : Value) (wr : World) : Prop:=∃ k c : Nat,k<=N/\i = .int .i64 k/\Game wr q b0 b1 (N - k) c A/\c<=480004 + 120001 * k/\Tr (fun z=>A<=z) w0 wr
theorem plays_any (up : Int) (hu : up<=11) (cap n e r n2 e2 r2 : Int) (hc0 : -9223372036854775808<=cap) (hc1 : cap<=9223372036854775807) (h1 : R64 n) (h2 : R64 e) (h3 : R64 r) (h4 : R64 n2) (h5 : R64 e2) (h6 : R64 r2) (w : World) (hvs : Vars w) (vs : Value) (os : List OpV) (hs : Scr w w.heap.size vs os) (hl : os.length<=110000) :
  Calls Tryz.prog 10 #[.int .i64 cap,.agg #[.int .i64 n,.int .i64 e,.int .i64 r],.agg #[.int .i64 n2,.int .i64 e2,.int .i64 r2],vs,.int .i64 up] w fun en w'=>en = .returned (.bool true)/\Below w.heap.size w w':=by
 obtain ⟨X,hX,HB,Hr1,Hr2,HsX⟩ : ∃ X,(w.alloc (.cells #[.int .i64 n,.int .i64 e,.int .i64 r] 23)).alloc (.cells #[.int .i64 n2,.int .i64 e2,.int .i64 r2] 23) = X/\Hid (Below w.heap.size w X)/\Hid (X.heap[w.heap.size]? = some (.cells #[.int .i64 n,.int .i64 e,.int .i64 r] 23 (0,0)))/\Hid (X.heap[w.heap.size + 1]? = some (.cells #[.int .i64 n2,.int .i64 e2,.int .i64 r2] 23 (0,0)))/\Hid (X.heap.size = w.heap.size + 2) :=
  ⟨_,rfl,((Below.refl _ _).alloc (Nat.le_refl _) _).alloc (by simp) _,alloc2_fst w _ _,alloc2_snd w _ _,by show _ = _;simp⟩
 have HSc : Hid (Scr w w.heap.size vs os/\Vars w/\5<=w.heap.size):=⟨hs,hvs,hvs.five⟩
 have HBg : Hid (∀ (Y : World) (c a1 a2 a3 : Int),R64 a1->R64 a2->R64 a3->Vars Y->-9223372036854775808<=c->c<=9223372036854775807->Calls Tryz.prog 33 #[.int .i64 c,.agg #[.int .i64 a1,.int .i64 a2,.int .i64 a3]] Y fun en w'=>BegunS Y c a1 a2 a3 en w'):=fun Y c a1 a2 a3 g1 g2 g3 hv gc0 gc1 =>
  (begun_any c a1 a2 a3 Y g1 g2 g3).mono fun en w' hh=>begun_side hh hv gc0 gc1
 have hb1:=HBg.out X cap n e r h1 h2 h3 (hvs.below HB.out) hc0 hc1
 have HB2 : Hid (∀ (Y : World) (c : Int),Vars Y->-9223372036854775808<=c->c<=9223372036854775807->Calls Tryz.prog 33 #[.int .i64 c,.agg #[.int .i64 n2,.int .i64 e2,.int .i64 r2]] Y fun en w'=>BegunS Y c n2 e2 r2 en w'):=fun Y c hv g0 g1=>HBg.out Y c n2 e2 r2 h4 h5 h6 hv g0 g1
 clear hs hvs HBg h1 h2 h3 h4 h5 h6
 go_enter Tryz.func10,Tryz.ntmps10
 go_upto_region 1 with (fail)
 go_wp2_with (first
  | (refine wpList_load_row rfl 23 _ rfl w.heap.size rfl 23 _ (0,0) _ Hr1.out Tryz.underlying23 rfl infoOpt ?_)
  | fail)
 refine hb1.mono ?_
 rintro en w1 ⟨d,m,b0,s,Zd,Zx,Zm,rfl,hw1,hS1⟩
 have HS1 : Hid (Below X.heap.size X w1/\(∀ rem,rem<=120000->SdR (fun k=>X.heap.size<=k/\k < w1.heap.size) w1 b0 s [] [] rem d m Zd Zx Zm (Dk.new cap) [] (.slice none 0 0) [] 0)):=⟨hw1,hS1⟩
 have hr2:=heap_later hw1 Hr2.out
 clear hb1 hw1 hS1 hX
 go_wp2_with (first
  | (refine wpList_load_row rfl 23 _ rfl (w.heap.size + 1) rfl 23 _ (0,0) _ hr2 Tryz.underlying23 rfl infoOpt ?_)
  | fail)
 obtain ⟨t0,t1⟩:=tdiv2_rng hc0 hc1
 refine (HB2.out w1 _ ((HSc.out.2.1.below HB.out).below HS1.out.1) t0 t1).mono ?_
 rintro en w2 ⟨d',m',b1,s',Zd',Zx',Zm',rfl,hw2,hS2⟩
 have HS2 : Hid (Below w1.heap.size w1 w2/\(∀ rem,rem<=120000->SdR (fun k=>w1.heap.size<=k/\k < w2.heap.size) w2 b1 s' [] [] rem d' m' Zd' Zx' Zm' (Dk.new (cap.tdiv 2)) [] (.slice none 0 0) [] 0)):=⟨hw2,hS2⟩
 clear hw2 hS2 hr2 t0 t1 HB2
 obtain ⟨W3,hW3,HW3⟩ : ∃ W3,w2.alloc (.cells #[.pointer none,.pointer none,.slice none 0 0,.slice none 0 0] 74) = W3/\Hid (Below w2.heap.size w2 W3/\W3.heap[w2.heap.size]? = some (.cells #[.pointer none,.pointer none,.slice none 0 0,.slice none 0 0] 74 (0,0))/\W3.heap.size = w2.heap.size + 1) :=
  ⟨_,rfl,(Below.refl _ _).alloc (Nat.le_refl _) _,heap_alloc_new w2 _,by show _ = _;simp⟩
 go_upto_region 6 with (fail)
 have c0 : W3.cell? ⟨w2.heap.size,0,none⟩ = some (.pointer none):=by rw [cell_of_row _ _ _ _ _ _ HW3.out.2.1];rfl
 have fz : ∀ o,W3.frozen? ⟨w2.heap.size,o,none⟩ = false:=fun o=>frozen_of_row _ _ _ _ _ HW3.out.2.1
 go_upto_region 7 with (fail)
 obtain ⟨W4,hW4,HW4⟩ : ∃ W4,W3.setCell ⟨w2.heap.size,0,none⟩ (.pointer (some ⟨b0,0,none⟩)) = W4/\Hid (W4.heap[w2.heap.size]? = some (.cells #[.pointer (some ⟨b0,0,none⟩),.pointer none,.slice none 0 0,.slice none 0 0] 74 (0,0))/\Tr (fun k=>k = w2.heap.size) W3 W4) :=
  ⟨_,rfl,(heap_setCell_self HW3.out.2.1 0 _).trans rfl,(Tr.refl (fun k=>k = w2.heap.size) W3).setCell (p:=⟨w2.heap.size,0,none⟩) rfl _⟩
 rw [hW4]
 have c1 : W4.cell? ⟨w2.heap.size,1,none⟩ = some (.pointer none):=by rw [cell_of_row _ _ _ _ _ _ HW4.out.1];rfl
 have fz1 : ∀ o,W4.frozen? ⟨w2.heap.size,o,none⟩ = false:=fun o=>frozen_of_row _ _ _ _ _ HW4.out.1
 clear hW3 hW4 c0 fz
 go_upto_region 8 with (fail)
 obtain ⟨W5,hW5,HW5⟩ : ∃ W5,W4.setCell ⟨w2.heap.size,1,none⟩ (.pointer (some ⟨b1,0,none⟩)) = W5/\Hid (W5.heap[w2.heap.size]? = some (.cells #[.pointer (some ⟨b0,0,none⟩),.pointer (some ⟨b1,0,none⟩),.slice none 0 0,.slice none 0 0] 74 (0,0))/\Tr (fun k=>k = w2.heap.size) W3 W5) :=
  ⟨_,rfl,(heap_setCell_self HW4.out.1 1 _).trans rfl,HW4.out.2.setCell (p:=⟨w2.heap.size,1,none⟩) rfl _⟩
 rw [hW5]
 clear hW5 c1 fz1
 obtain ⟨q,hq⟩ : ∃ q,w2.heap.size = q:=⟨_,rfl⟩
 obtain ⟨N,hN⟩ : ∃ N,os.length = N:=⟨_,rfl⟩
 have HG : Hid (∃ (Z0 Z1 : Nat->Prop),SdR Z0 W5 b0 s [] [] (N + 1 + 1) d m Zd Zx Zm (Dk.new cap) [] (.slice none 0 0) [] 0/\SdR Z1 W5 b1 s' [] [] (N + 1 + 1) d' m' Zd' Zx' Zm' (Dk.new (cap.tdiv 2)) [] (.slice none 0 0) [] 0/\(∀ k,Z0 k->¬ k = q)/\(∀ k,Z1 k->¬ k = q)/\(∀ k,Z0 k->¬ Z1 k)/\WoR (fun k=>k = q) W5 q b0 b1 0/\Vars W5/\(∀ k,k = q\/Z0 k\/Z1 k->w.heap.size<=k)/\w.heap.size<=W5.heap.size/\Tr (fun k=>w.heap.size<=k) w W5):=by
  obtain ⟨a1,a2⟩:=HS1.out
  obtain ⟨a3,a4⟩:=HS2.out
  obtain ⟨a5,a6,a7⟩:=HW3.out
  obtain ⟨a8,a9⟩:=HW5.out
  obtain ⟨y1,y2,y3⟩:=HSc.out
  have z0:=HB.out.size
  have z1:=a1.size
  have z2:=a3.size
  have z5:=a9.size
  have hvX:=y2.below HB.out
  have bl:=belowN (belowN (belowN HB.out a1) a3) a5
  have s1:=(((a2 (N + 1 + 1) (by omega)).below a3 (by omega)).below a5 (by omega)).tr a9 (fun k hk e=>by omega) (fun k e=>by omega)
  have s2:=((a4 (N + 1 + 1) (by omega)).below a5 (by omega)).tr a9 (fun k hk e=>by omega) (fun k e=>by omega)
  subst hq
  refine ⟨_,_,s1,s2,fun k hk e=>by omega,fun k hk e=>by omega,fun k hk hh=>by omega,wor_new a8 (by omega),(y2.below bl).tr a9 (fun k hk e=>by omega),fun k hk=>?_,by omega,(below_tr bl _).trans (a9.mono fun k _ e=>by have e : k = w2.heap.size:=e;show w.heap.size<=k;omega)⟩
  rcases hk with hk | hk | hk <;> omega
 rw [hq]
 clear HS1 HS2 HW3 HW4 HW5 hq
 obtain ⟨Z0,Z1,hs1,hs2,d0,d1,d2,hw5,hv5,hA5,hz5,ht5⟩:=HG.out
 have hf0:=first_any (q:=q) (b0:=b0) (b1:=b1) hs1 (new_sound _) hw5 d0 hv5 (by omega) up (HSc.out.1.tr ht5) (fun k hk=>hA5 k (hk.imp (fun h=>h) .inl)) hz5
 have HK0 : Hid (∀ e w6,StepW (fun k=>k = q) Z0 W5 q b0 b1 b0 N 0 240002 e w6->_):=fun e w6 hf=>both_first (A:=w.heap.size) (w2:=w) (e2:=e) (c:=0) hw5 (fun k hk=>hs1.lt k hk) hf d0 d1 d2 (fun k hk=>hs2.lt k hk) hv5 hA5 hz5 HSc.out.2.2 hs2
 clear hs1 hs2 d0 d1 d2 hw5 hv5 hA5 hz5 ht5
 go_wp2_with fail
 refine hf0.mono ?_
 intro e w6 hf
 obtain ⟨rfl,t6,W',c',f1,f2,f3,f4,f5,f6,f7,f8⟩:=HK0.out e w6 hf
 have HT6 : Hid (Tr (fun k=>w.heap.size<=k) w w6/\c'<=240002):=⟨HG.out.choose_spec.choose_spec.2.2.2.2.2.2.2.2.2.trans t6,f2⟩
 have hf1:=first_any (q:=q) (b0:=b0) (b1:=b1) (n:=0) f3 (new_sound _) f1 f4 f5 (by omega) up (HSc.out.1.tr HT6.out.1) f6 f7
 have HK1 : Hid (∀ (e : Ending) (w2 : World),StepW W' Z1 w6 q b0 b1 b1 N c' 240002 e w2->GameE w6 q b0 b1 N c' 240002 w.heap.size e w2):=f8
 clear hf hf0 HK0 HG f1 f2 f3 f4 f5 f6 f7 f8 t6
 go_wp2_with fail
 refine hf1.mono ?_
 intro e w7 hf
 obtain ⟨rfl,t7,c7,g1,g2⟩:=HK1.out e w7 hf
 have HG7 : Hid (Game w7 q b0 b1 N c7 w.heap.size/\c7<=480004/\Tr (fun k=>w.heap.size<=k) w w7):=⟨g2,by have:=HT6.out.2;omega,HT6.out.1.trans t7⟩
 clear hf hf1 HK1 HT6 t7 g1 g2
 obtain ⟨av,cv,hvs2,hel⟩:=HSc.out.1.at_
 subst hvs2
 subst hN
 have HEl : Hid (0 < os.length->∃ bk off,av = some ⟨bk,off,none⟩/\bk < w.heap.size/\∀ i (h : i < os.length),w.rangeAt bk (off + i * 9) os[i].row.toList):=hel
 clear hel
 go_wp2_with fail
 go_loopw [16] (fun i wr=>PlayL q b0 b1 os.length w.heap.size w i wr) (fun i _=>os.length - (intOf i).toNat)
 case atStart=>exact ⟨0,c7,Nat.zero_le _,rfl,HG7.out.1,by have:=HG7.out.2.1;omega,HG7.out.2.2⟩
 case round =>
  obtain ⟨k,c,hk,rfl,hG,hc,ht⟩:=hrel
  have HGk : Hid (Game wr q b0 b1 (os.length - k) c w.heap.size/\c<=480004 + 120001 * k/\Tr (fun z=>w.heap.size<=z) w wr):=⟨hG,hc,ht⟩
  clear hG hc ht
  by_cases hlt : k < os.length
  ·obtain ⟨bk,off,rfl,hbk,hr⟩:=HEl.out (by omega)
   have hrow : wr.rangeAt bk (off + k * 9) os[k].row.toList:=fun j x hj=>cell_tr HGk.out.2.2 (hr k hlt j x hj) (by have:=hbk;show ¬ w.heap.size<=bk;omega)
   have hok:=(HSc.out.1.ok os[k] (List.getElem_mem hlt)).tr HGk.out.2.2
   obtain ⟨o,ho⟩ : ∃ o,os[k] = o:=⟨_,rfl⟩
   rw [ho] at hrow hok
   obtain ⟨K,oo,ok,ov,oc,ol,oA,oB,on⟩:=o
   have HRow : Hid (wr.rangeAt bk (off + k * 9) [.int .i64 K,.bool oo,.string ok,.string ov,.string oc,.bool ol,.int .i64 oA,.int .i64 oB,on]):=hrow
   have hk0 : wr.cell? ⟨bk,off + k * 9,none⟩ = some (.int .i64 K):=by have:=HRow.out 0 _ rfl;simpa using this
   have q0 : (0 : Int)<=(k : Int):=by omega
   have q1 : (k : Int) < (os.length : Int):=by omega
   have HL0 : Hid (k < os.length):=hlt
   by_cases hK : up < K
   ·clear hrow hok hr ho hlt
    go_wp2
    go_roundw
    case rel=>exact ⟨k + 1,c,HL0.out,by go_num,HGk.out.1.less (by omega),plus1 HGk.out.2.1 (Nat.le_add_right _ _),HGk.out.2.2⟩
    case measure=>have:=HL0.out;simp [intOf];omega
   ·have hst:=step_game (rem:=os.length - (k + 1)) (HGk.out.1.less (by omega)) (by have:=HGk.out.2.1;omega) _ hok (by show K<=11;omega)
    have hst : Calls Tryz.prog 35 #[.pointer (some ⟨q,0,none⟩),.agg #[.int .i64 K,.bool oo,.string ok,.string ov,.string oc,.bool ol,.int .i64 oA,.int .i64 oB,on]] wr fun e w'=>GameE wr q b0 b1 (os.length - (k + 1)) c 120001 w.heap.size e w':=hst
    clear hrow hok hr ho hlt
    go_wp2_with (first
     | (refine wpList_load_mid rfl 77 _ rfl bk (off + k * 9) rfl _ _ HRow.out Tryz.underlying77 rfl infoOp ?_)
     | fail)
    refine hst.mono ?_
    rintro e w8 ⟨rfl,t8,c8,hc8,hG8⟩
    have hck : c<=480004 + 120001 * k:=HGk.out.2.1
    have hc9 : c8<=480004 + 120001 * (k + 1):=plus1 hck hc8
    have HG8 : Hid (Game w8 q b0 b1 (os.length - (k + 1)) c8 w.heap.size/\c8<=480004 + 120001 * (k + 1)/\Tr (fun z=>w.heap.size<=z) w w8):=⟨hG8,hc9,HGk.out.2.2.trans t8⟩
    clear hc9
    have hlk:=hG8.looks (upto2 hck hc8 hl HL0.out)
    clear hst t8 hc8 hG8 hk0 hck
    go_wp2_with fail
    refine hlk.mono ?_
    rintro e w9 ⟨rfl,b9⟩
    have HG9 : Hid (Game w9 q b0 b1 (os.length - (k + 1)) c8 w.heap.size/\c8<=480004 + 120001 * (k + 1)/\Tr (fun z=>w.heap.size<=z) w w9):=⟨HG8.out.1.below b9,HG8.out.2.1,HG8.out.2.2.trans (below_tr b9 _)⟩
    clear hlk b9
    go_wp2
    go_roundw
    case rel=>exact ⟨k + 1,c8,HL0.out,by go_num,HG9.out.1,HG9.out.2.1,HG9.out.2.2⟩
    case measure=>have:=HL0.out;simp [intOf];omega
  ·have q1 : ¬ (k : Int) < (os.length : Int):=by omega
   have HF : Hid (Below w.heap.size w wr):=HGk.out.2.2.below (Nat.le_refl _) (fun k hk=>by show ¬ w.heap.size<=k;omega)
   clear hlt
   go_wp2
   go_ret
   exact ⟨rfl,HF.out⟩
end Go.Proofs.YtilkdeghknjjhaaGreatDoor
namespace Go.Proofs.YtilkdeghknjjhaaGreatDoor
open Go.RowKit M Go.Maps
theorem Scr.up {w : World} {A B : Nat} {v : Value} {os : List OpV} (h : Scr w A v os) (hA : A<=B) : Scr w B v os:=by
 obtain ⟨a,cap,rfl,h1⟩:=h.at_
 refine ⟨⟨a,cap,rfl,fun h0=>?_⟩,fun o ho=>?_⟩
 ·obtain ⟨bk,off,rfl,hb,h2⟩:=h1 h0
  exact ⟨bk,off,rfl,by omega,h2⟩
 ·obtain ⟨g1,g2,g3,g4,keep,g5,g6,g7⟩:=h.ok o ho
  exact ⟨g1,g2,g3,g4,keep,g5,fun h0 k hk=>Nat.lt_of_lt_of_le (g6 h0 k hk) hA,g7⟩
theorem holds_any (cap n e r n2 e2 r2 : Int) (hc0 : -9223372036854775808<=cap) (hc1 : cap<=9223372036854775807) (h1 : R64 n) (h2 : R64 e) (h3 : R64 r) (h4 : R64 n2) (h5 : R64 e2) (h6 : R64 r2) (w : World) (hvs : Vars w) (vs : Value) (os : List OpV) (hs : Scr w w.heap.size vs os) (hl : os.length<=110000) :
  Calls Tryz.prog 4 #[.int .i64 cap,.agg #[.int .i64 n,.int .i64 e,.int .i64 r],.agg #[.int .i64 n2,.int .i64 e2,.int .i64 r2],vs] w fun en w'=>en = .returned (.bool true)/\Below w.heap.size w w':=by
 obtain ⟨X,hX,HB,Hr1,Hr2⟩ : ∃ X,(w.alloc (.cells #[.int .i64 n,.int .i64 e,.int .i64 r] 23)).alloc (.cells #[.int .i64 n2,.int .i64 e2,.int .i64 r2] 23) = X/\Hid (Below w.heap.size w X)/\Hid (X.heap[w.heap.size]? = some (.cells #[.int .i64 n,.int .i64 e,.int .i64 r] 23 (0,0)))/\Hid (X.heap[w.heap.size + 1]? = some (.cells #[.int .i64 n2,.int .i64 e2,.int .i64 r2] 23 (0,0))) :=
  ⟨_,rfl,((Below.refl _ _).alloc (Nat.le_refl _) _).alloc (by simp) _,alloc2_fst w _ _,alloc2_snd w _ _⟩
 have hp:=plays_any 11 (by omega) cap n e r n2 e2 r2 hc0 hc1 h1 h2 h3 h4 h5 h6 X (hvs.below HB.out) vs os ((hs.tr (below_tr HB.out _)).up HB.out.size) hl
 clear hs hvs h1 h2 h3 h4 h5 h6
 go_enter Tryz.func4,Tryz.ntmps4
 go_upto_region 1 with (fail)
 go_wp2_with (first
  | (refine wpList_load_row rfl 23 _ rfl w.heap.size rfl 23 _ (0,0) _ Hr1.out Tryz.underlying23 rfl infoOpt ?_)
  | (refine wpList_load_row rfl 23 _ rfl (w.heap.size + 1) rfl 23 _ (0,0) _ Hr2.out Tryz.underlying23 rfl infoOpt ?_)
  | fail)
 refine hp.mono ?_
 rintro en w2 ⟨rfl,hb⟩
 have HB2 : Hid (Below w.heap.size w w2):=belowN HB.out hb
 clear hb hp hX
 go_wp2
 first | exact ⟨rfl,HB2.out⟩ | (go_ret;exact ⟨rfl,HB2.out⟩)
end Go.Proofs.YtilkdeghknjjhaaGreatDoor
