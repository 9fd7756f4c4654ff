/- A part of the proof. -/
import Derived.Test.YtilkdeghknjjhaaGreatDoorPart48
set_option maxRecDepth 20000
set_option maxHeartbeats 3200000
set_option linter.unusedVariables false
namespace Go.Proofs.YtilkdeghknjjhaaGreatDoor
open Go.RowKit M Go.Maps
def OpensW (W Z : Nat->Prop) (w : World) (q b0 b1 b rem c : Nat) (D : Dk) (e : Ending) (w' : World) : Prop :=
 StepW W Z w q b0 b1 b rem c 120001 e w'/\(D.Sound->∃ x,w'.cell? ⟨b,4,none⟩ = some (.pointer (some ⟨x,0,none⟩)))
theorem trialA {A : Nat} {nd : Int} {D : Dk} {md : List Mt} {hd : Nat} (h : Fnd nd D md hd) {q : Nat} {ev : Int} {roll : Nat} {w : World} (hq : DiskAt (fun k=>A<=k/\k < w.heap.size) w q D) (hvs : Vars w) (hA : 5<=A) (hAw : A<=w.heap.size) (ho : optOK nd ev roll = true) (n0 : 0<=nd) (n1 : nd<=15) :
  Calls Tryz.prog 48 #[.pointer (some ⟨q,0,none⟩),.agg #[.int .i64 nd,.int .i64 ev,.int .i64 roll]] w fun e w'=>∃ (y : Option Addr) (r : Int),e = .returned (.tuple #[.pointer y,.int .i64 r])/\Below A w w'/\(y = none\/∃ g,y = some ⟨g,0,none⟩/\TrialY A w' g):=by
 refine (trial_open h hq hvs hA hAw ho n0 n1).mono ?_
 rintro e w' ⟨hb,⟨y,he,hy⟩ | he⟩
 ·exact ⟨_,_,he,hb,.inr ⟨y,rfl,hy⟩⟩
 ·exact ⟨_,_,he,hb,.inl rfl⟩
def OpLoop (SR : ByteArray->World->Prop) (WR : Nat->World->Prop) (N : Nat) (i : Value) (wr : World) : Prop:=∃ (k : Nat) (t : ByteArray),k<=N/\i = .int .i64 k/\SR t wr/\WR k wr
theorem opens_any (W Z : Nat->Prop) (q b0 b1 c b : Nat) (s : Sd) (ms fl : List Mt) (rem p m : Nat) (Zd Zx Zm : Nat->Prop) (D : Dk) (L : List MuV) (vh : Value) (F : List MuV) (n : Nat) (w : World)
  (h : SdR Z w b s ms fl (rem + 1) p m Zd Zx Zm D L vh F n) (hW : WoR W w q b0 b1 c) (hd : ∀ k,Z k->¬ W k) (hvs : Vars w) (hc : c + 120001<=20000000000) :
  Calls Tryz.prog 61 #[.pointer (some ⟨q,0,none⟩),.pointer (some ⟨b,0,none⟩)] w fun e w'=>OpensW W Z w q b0 b1 b rem c D e w':=by
 have hlen:=h.len
 obtain ⟨md,hdD,hF,hpre,hcr,hhd⟩:=h.dr.fnd (by omega)
 have hbz:=h.lt b h.zb
 have h5w : 5<=w.heap.size:=by omega
 have ho:=h.o
 obtain ⟨R,hR⟩ : ∃ R : Nat,s.r = R:=⟨s.r.toNat,by unfold optOK at ho;simp at ho;omega⟩
 have hn : 0<=s.n/\s.n<=15:=by unfold optOK at ho;simp at ho;omega
 rw [hR] at ho
 have HSd : Hid (∀ X,Below w.heap.size w X->SdAt X b s):=fun X hX=>h.sd.below hX
 have HR : Hid (∀ X s',SdAt X b s'->s'.n = s.n->s'.ev = s.ev->s'.r = s.r->X.cell? ⟨b,1,none⟩ = some (.int .i64 s.n)/\X.cell? ⟨b,2,none⟩ = some (.int .i64 s.ev)/\X.cell? ⟨b,3,none⟩ = some (.int .i64 R)):=fun X s' hs e1 e2 e3=>by
  refine ⟨(hs.cell 1).trans ?_,(hs.cell 2).trans ?_,(hs.cell 3).trans ?_⟩
  ·show some (Value.int .i64 s'.n) = _;rw [e1]
  ·show some (Value.int .i64 s'.ev) = _;rw [e2]
  ·show some (Value.int .i64 s'.r) = _;rw [e3,hR]
 have HCo : Hid (∀ X,Below w.heap.size w X->Calls Tryz.prog 47 #[.pointer (some ⟨p,0,none⟩)] X fun e w'=>∃ g,X.heap.size<=g/\e = .returned (.pointer (some ⟨g,0,none⟩))/\DiskAt (fun k=>X.heap.size<=k/\k < w'.heap.size) w' g D/\Below X.heap.size X w'):=fun X hX=>by
  refine (Copy_any Zd (fun k=>X.heap.size<=k) p D X (h.dk.below hX) hF.di.wf.ok (fun k hk=>hk)).mono ?_
  rintro e w' ⟨g,h1,h2,h3,h4⟩
  exact ⟨g,h1,h2,h3.close,h4⟩
 have HTo : Hid (∀ X g,Below w.heap.size w X->DiskAt (fun k=>w.heap.size<=k/\k < X.heap.size) X g D->Calls Tryz.prog 48 #[.pointer (some ⟨g,0,none⟩),.agg #[.int .i64 s.n,.int .i64 s.ev,.int .i64 R]] X fun e w'=>∃ (y : Option Addr) (r : Int),e = .returned (.tuple #[.pointer y,.int .i64 r])/\Below w.heap.size X w'/\(y = none\/∃ g,y = some ⟨g,0,none⟩/\TrialY w.heap.size w' g)):=fun X g hX hD =>
  trialA hF hD (hvs.below hX) h5w hX.size ho hn.1 hn.2
 have HTp : Hid (∀ X g,TrialY w.heap.size X g->w.heap.size<=X.heap.size->Calls Tryz.prog 25 #[.pointer (some ⟨g,0,none⟩),.string ⟨#[116,114,105,97,108]⟩,.string ⟨#[111,102,32,97,110,111,116,104,101,114,32,100,105,115,107]⟩,.string ⟨#[0]⟩] X fun e w'=>(∃ r : Int,e = .returned (.int .i64 r))/\Below w.heap.size X w'):=fun X g hy hX =>
  trial_put hy _ _ _ (by decide) (by decide) (by decide) hX
 have c0 : w.cell? ⟨b,0,none⟩ = some (.pointer (some ⟨p,0,none⟩)):=(h.sd.cell 0).trans (congrArg some h.d)
 have HP0 : Hid (∀ X,Below w.heap.size w X->X.cell? ⟨b,0,none⟩ = some (.pointer (some ⟨p,0,none⟩))/\(∀ o,X.frozen? ⟨b,o,none⟩ = false)):=fun X hX=>⟨cell_later hX c0,(h.sd.below hX).frozen⟩
 have HH : Hid (SdR Z w b s ms fl (rem + 1) p m Zd Zx Zm D L vh F n/\WoR W w q b0 b1 c/\(∀ k,Z k->¬ W k)/\Vars w):=⟨h,hW,hd,hvs⟩
 have HFn : Hid (Fnd s.n D md hdD/\md <+: ms ++ fl/\(s.cr = false->ms.length<=md.length)/\s.held<=hdD/\optOK s.n s.ev R = true):=⟨hF,hpre,hcr,hhd,ho⟩
 clear h hW hd hvs hF hpre hcr hhd ho hlen hbz
 go_enter Tryz.func61,Tryz.ntmps61
 go_wp2_with fail
 refine (HCo.out w (Below.refl _ _)).mono ?_
 rintro e w1 ⟨g1,hg1,rfl,hD1,hb1⟩
 obtain ⟨r1,r2,r3⟩:=HR.out w1 s (HSd.out w1 hb1) rfl rfl rfl
 have hto:=HTo.out w1 g1 hb1 hD1
 clear hD1 c0 hg1
 go_wp2_with fail
 refine hto.mono ?_
 rintro e w2 ⟨yo,r,rfl,hb2,hy⟩
 have HB2 : Hid (Below w.heap.size w w2):=hb1.trans hb2
 have HY : Hid (yo = none\/∃ g,yo = some ⟨g,0,none⟩/\TrialY w.heap.size w2 g):=hy
 clear hb1 hb2 hy hto r1 r2 r3 HTo
 go_upto_if 36 with (fail)
 go_cut [] from 37 to 38 (fun wx=>Hid (Below w.heap.size w wx))
 case first =>
  rcases HY.out with rfl | ⟨y,rfl,hty⟩
  ·go_wp2
   go_meet
   exact HB2.out
  ·have htp:=HTp.out w2 y hty HB2.out.size
   go_wp2_with fail
   refine htp.mono ?_
   rintro e w3 ⟨⟨r3,rfl⟩,hb3⟩
   go_wp2
   go_meet
   exact HB2.out.trans hb3
 case rest =>
  have HB3 : Hid (Below w.heap.size w wc):=hcut.out
  clear hcut HY HB2 HTp
  obtain ⟨c0,fz⟩:=HP0.out wc HB3.out
  have hco:=HCo.out wc HB3.out
  go_wp2_with fail
  refine hco.mono ?_
  rintro e w4 ⟨g2,hg2,rfl,hD4,hb4⟩
  obtain ⟨c4,fz4⟩:=HP0.out w4 (belowN HB3.out hb4)
  have HE4 : Hid (Tr (fun k=>w.heap.size<=k) w w4/\DiskAt (fun k=>wc.heap.size<=k/\k < w4.heap.size) w4 g2 D/\w.heap.size<=wc.heap.size/\wc.heap.size<=w4.heap.size/\SdAt w4 b s/\Vars w4):=⟨below_tr (belowN HB3.out hb4) _,hD4,HB3.out.size,hb4.size,HSd.out w4 (belowN HB3.out hb4),HH.out.2.2.2.below (belowN HB3.out hb4)⟩
  clear c0 fz hco hg2 hD4 hb4 HCo HP0 HSd
  go_upto_region 6 with (fail)
  obtain ⟨W5,hW5,HW5⟩ : ∃ W5,w4.setCell ⟨b,0,none⟩ (.pointer (some ⟨g2,0,none⟩)) = W5/\Hid (SdAt W5 b { s with d:=.pointer (some ⟨g2,0,none⟩) }/\DiskAt (fun k=>wc.heap.size<=k/\k < w4.heap.size) W5 g2 D/\Tr (fun k=>k = b\/w.heap.size<=k) w W5/\Vars W5/\W5.heap.size = w4.heap.size):=by
   obtain ⟨e1,e2,e3,e4,e5,e6⟩:=HE4.out
   have hbz:=HH.out.1.lt b HH.out.1.zb
   have tb : Tr (fun k=>k = b) w4 (w4.setCell ⟨b,0,none⟩ (.pointer (some ⟨g2,0,none⟩))):=(Tr.refl (fun k=>k = b) w4).setCell (p:=⟨b,0,none⟩) rfl _
   exact ⟨_,rfl,(heap_setCell_self e5 0 _).trans rfl,e2.tr tb (fun k hk e=>by have e : k = b:=e;omega),(e1.mono fun k _ hk=>.inr hk).trans (tb.mono fun k _ hk=>.inl hk),e6.tr tb (fun k hk (e : k = b)=>by omega),by simp [World.setCell]⟩
  rw [hW5]
  have d0 : W5.cell? ⟨b,0,none⟩ = some (.pointer (some ⟨g2,0,none⟩)):=(HW5.out.1.cell 0).trans rfl
  obtain ⟨d1,d2,d3⟩:=HR.out W5 _ HW5.out.1 rfl rfl rfl
  have hfl : Calls Tryz.prog 103 #[.pointer (some ⟨g2,0,none⟩)] W5 fun e w'=>e = .returned (.int .i64 D.failed)/\w' = W5:=Failed_any _ g2 D W5 HW5.out.2.1
  have HOp : Hid (∀ X,Below W5.heap.size W5 X->Calls Tryz.prog 48 #[.pointer (some ⟨g2,0,none⟩),.agg #[.int .i64 s.n,.int .i64 s.ev,.int .i64 R]] X fun e w'=>∃ (xo : Option Addr) (r : Int),e = .returned (.tuple #[.pointer xo,.int .i64 r])/\OpnF w.heap.size W5 g2 D s.n s.ev md hdD xo r w'):=fun X hX =>
   opnF HFn.out.1 HW5.out.2.1 HW5.out.2.2.2.1 h5w (fun k hk=>by have:=HE4.out.2.2.1;have:=HW5.out.2.2.2.2;omega) (by have:=HE4.out.2.2.1;have:=HE4.out.2.2.2.1;have:=HW5.out.2.2.2.2;omega) HFn.out.2.2.2.2 X hX
  have HSz5 : Hid (w.heap.size<=W5.heap.size):=by have:=HE4.out.2.2.1;have:=HE4.out.2.2.2.1;have:=HW5.out.2.2.2.2;show _<=_;omega
  have HB0 : Hid (b < w.heap.size):=(HH.out.1.lt b HH.out.1.zb).2
  clear hW5 c4 fz4 HE4
  go_wp2_with fail
  refine hfl.mono ?_
  rintro e w6 ⟨rfl,rfl⟩
  clear hfl
  go_upto_region 7 with (fail)
  go_cut [9,10] from 52 to 63 (fun v9 v10 wx=>∃ (xo : Option Addr) (r7 : Int),v9 = .pointer xo/\v10 = .int .i64 r7/\Hid (OpnF w.heap.size w6 g2 D s.n s.ev md hdD xo r7 wx))
  case first =>
   go_region_held3 (fun w'=>w'.cell? ⟨b,0,none⟩ = some (.pointer (some ⟨g2,0,none⟩))/\w'.cell? ⟨b,1,none⟩ = some (.int .i64 s.n)/\w'.cell? ⟨b,2,none⟩ = some (.int .i64 s.ev)/\w'.cell? ⟨b,3,none⟩ = some (.int .i64 R))
    (first | exact ⟨k0,k1,k2,k3⟩ | exact ⟨d0,d1,d2,d3⟩)
    (first
    | (go_at_call 48;refine (HOp.out _ (by repeat (first | exact Below.refl _ _ | refine Below.drew ?_ | refine below_drewN ?_ _))).mono ?_;rintro e w7 ⟨xo,r7,rfl,hF⟩;have HF7 : Hid (OpnF w.heap.size w6 g2 D s.n s.ev md hdD xo r7 w7):=hF;have k0:=cell_tr hF.1 d0 (show ¬ w.heap.size<=b by have:=HB0.out;omega);have k1:=cell_tr hF.1 d1 (show ¬ w.heap.size<=b by have:=HB0.out;omega);have k2:=cell_tr hF.1 d2 (show ¬ w.heap.size<=b by have:=HB0.out;omega);have k3:=cell_tr hF.1 d3 (show ¬ w.heap.size<=b by have:=HB0.out;omega);clear hF))
   all_goals
    go_wp2_with fail
    go_meet
    exact ⟨_,_,rfl,rfl,HF7⟩
  case rest =>
   obtain ⟨xo,r7,rfl,rfl,HF⟩:=hcut
   rename World=>w7
   have hs7 : SdAt w7 b { s with d:=.pointer (some ⟨g2,0,none⟩) }:=HW5.out.1.tr HF.out.1 (by have:=HB0.out;omega)
   have HS7 : Hid (SdAt w7 b { s with d:=.pointer (some ⟨g2,0,none⟩) }/\Tr (fun k=>k = b\/w.heap.size<=k) w w7):=⟨hs7,HW5.out.2.2.1.trans (HF.out.1.mono fun k _ hk=>.inr hk)⟩
   have d0 : w7.cell? ⟨b,0,none⟩ = some (.pointer (some ⟨g2,0,none⟩)):=(hs7.cell 0).trans rfl
   clear hs7 d1 d2 d3 HOp
   rcases HF.out.2 with ⟨x,j,Z',Y',mv,n',D',J,S',rfl,rfl,h1,h2,h3,h4,h5,h6,h7,h8⟩ | ⟨D',Z',rfl,rfl,h1,h2,h3,h4,h5,h6⟩
   ·have HK : Hid (Sto Z' Y' w7 x j g2 mv n' D' J S'/\SI s.n D' J S' md md.length/\n'<=200000000/\S'.every = s.ev/\(∀ k,D.Bud (k + 2)->D'.Bud k)/\(∀ k,Z' k->w.heap.size<=k)/\(∀ k,Y' k->w.heap.size<=k)/\w.heap.size<=j):=⟨h1,h2,h3,h4,h5,h6,h7,h8⟩
    have htr:=trouble_any Z' b g2 D' D.failed w7 d0 h1.side.dk
    clear h1 h2 h3 h4 h5 h6 h7 h8 d0
    obtain ⟨ah,qh,hvh⟩:=own_shape HH.out.1.doc.mi.rh
    subst hvh
    obtain ⟨af,qf,hfl⟩:=own_shape HH.out.1.doc.fo
    have HFl : Hid (s.fl = .slice af F.length qf):=hfl
    obtain ⟨i0,hi,hi0,hi1,hi2⟩:=info_parts infoMu
    have hlL : L.length<=120000/\F.length<=1:=⟨by have:=HH.out.1.doc.len.1;have:=HH.out.1.len;omega,HH.out.1.doc.f1⟩
    go_wp2_with fail
    refine htr.mono ?_
    rintro e w8 ⟨may,rfl,_,hb8⟩
    have hs8:=HS7.out.1.below hb8
    have fz:=hs8.frozen
    have c4 : w8.cell? ⟨b,4,none⟩ = some s.x:=(hs8.cell 4).trans rfl
    clear htr hfl
    go_upto_region 10 with (fail)
    obtain ⟨W9,hW9,HW9⟩ : ∃ W9,w8.setCell ⟨b,4,none⟩ (.pointer none) = W9/\Hid (SdAt W9 b { s with d:=.pointer (some ⟨g2,0,none⟩),x:=.pointer none }/\Tr (fun k=>k = b\/w.heap.size<=k) w W9/\Tr (fun k=>k = b\/w7.heap.size<=k) w7 W9) :=
     ⟨_,rfl,(heap_setCell_self hs8 4 _).trans rfl,(HS7.out.2.trans (below_tr hb8 _)).setCell (p:=⟨b,4,none⟩) (.inl rfl) _,(below_tr hb8 _).setCell (p:=⟨b,4,none⟩) (.inl rfl) _⟩
    rw [hW9]
    obtain ⟨e1,_,_⟩:=HR.out W9 _ HW9.out.1 rfl rfl rfl
    have HD9 : Hid (DocIn Zm W9 m s.n ms s.fl fl L (.slice ah L.length qh) F):=HH.out.1.doc.tr HW9.out.2.1 (fun k hk hh=>by
     rcases hh with e | e
     ·exact HH.out.1.b3 (e ▸ hk)
     ·have:=(HH.out.1.lt k (HH.out.1.zm k hk)).2;omega)
    clear hW9 hs8 fz c4 hb8
    go_upto_region 15 with (fail)
    obtain ⟨W10,hW10,HW10⟩ : ∃ W10,W9.alloc (.cells #[.int .i64 s.n,.slice none 0 0] 132) = W10/\Hid (Below W9.heap.size W9 W10/\W10.heap[W9.heap.size]? = some (.cells #[.int .i64 s.n,.slice none 0 0] 132 (0,0))/\W10.heap.size = W9.heap.size + 1) :=
     ⟨_,rfl,(Below.refl _ _).alloc (Nat.le_refl _) _,heap_alloc_new W9 _,by simp⟩
    rw [hW10]
    have ca : W10.cell? ⟨W9.heap.size,1,none⟩ = some (.slice none 0 0):=by rw [cell_of_row _ _ _ _ _ _ HW10.out.2.1];rfl
    have c5 : W10.cell? ⟨b,5,none⟩ = some (.pointer (some ⟨m,0,none⟩)):=((HW9.out.1.below HW10.out.1).cell 5).trans (congrArg some HH.out.1.mm)
    have cm : W10.cell? ⟨m,1,none⟩ = some (.slice ah L.length qh):=by rw [cell_of_row _ _ _ _ _ _ (HD9.out.mi.below HW10.out.1).hp];rfl
    have HRL : Hid (W10.ownsRow 0 191 4 (.slice ah L.length qh) L.length (cellsM L)):=own_below HD9.out.mi.rh HW10.out.1
    have HO1 : Hid (∀ u ∈ cellsM L,u.oneCell' = true):=one_cellsM L (fun y hy=>(HD9.out.mi.rc y hy).one_cell)
    have HO2 : Hid (∀ u ∈ cellsM F,u.oneCell' = true):=one_cellsM F (fun y hy=>(HD9.out.fr y hy).one_cell)
    clear hW10 e1
    go_cut [] from 90 to 104 (fun wx=>∃ a9 q9,Hid (wx.heap[W9.heap.size]? = some (.cells #[.int .i64 s.n,.slice a9 L.length q9] 132 (0,0))/\wx.ownsRow 0 191 4 (.slice a9 L.length q9) L.length (cellsM L)/\InZ (fun k=>W9.heap.size<=k) (.slice a9 L.length q9)/\Below W9.heap.size W9 wx))
    case first =>
     go_region_law
      ((refine step_append_rows rfl _ _ 130 rfl 0 0 191 i0 (.agg #[.bool false,.string ByteArray.empty,.string ByteArray.empty,.slice none 0 0]) 4 64 Tryz.underlying130 hi hi0 hi1 hi2 rfl (by decide) (.slice none 0 0) 0 [] rfl (World.ownsRow_nil _ _ _ _) (.slice ah L.length qh) L.length (cellsM L) rfl (own_drw HRL.out) HO1.out (by omega) (by omega) (by omega) ?_);(
       intro v11 w11 hown0 hgrow hv11;have hown : w11.ownsRow 0 191 4 v11 L.length (cellsM L):=(by simpa using hown0);obtain ⟨a11,q11,hvs⟩:=own_shape hown;subst hvs;have hb11 : Below W10.heap.size W10 w11:=grown_below hgrow (Nat.le_refl _) (fun k hk=>by cases hk);have hr11:=heap_later hb11 HW10.out.2.1;have j1:=cell_later hb11 ca;have fz11 : ∀ o,w11.frozen? ⟨W9.heap.size,o,none⟩ = false:=(fun o=>frozen_of_row _ _ _ _ _ hr11);have HQ : Hid ((w11.setCell ⟨W9.heap.size,1,none⟩ (.slice a11 L.length q11)).heap[W9.heap.size]? = some (.cells #[.int .i64 s.n,.slice a11 L.length q11] 132 (0,0))/\(w11.setCell ⟨W9.heap.size,1,none⟩ (.slice a11 L.length q11)).ownsRow 0 191 4 (.slice a11 L.length q11) L.length (cellsM L)/\InZ (fun k=>W9.heap.size<=k) (.slice a11 L.length q11)/\Below W9.heap.size W9 (w11.setCell ⟨W9.heap.size,1,none⟩ (.slice a11 L.length q11))):=⟨(heap_setCell_self hr11 1 _).trans rfl,own_setCell hown hr11 (by decide),(fun k hk=>by
        rcases hv11 with e | e
        ·rw [e] at hk;cases hk
        ·have h1 : W10.heap.size<=k:=e k hk
         have:=HW10.out.2.2;omega),(belowN HW10.out.1 hb11).setCell (Nat.le_refl _) _⟩;clear hown0 hown hgrow hv11 hb11 hr11))
     all_goals
      go_wp2_with fail
      go_meet
      exact ⟨_,_,HQ.out⟩
    case rest =>
     obtain ⟨a9,q9,HX⟩:=hcut
     rename World=>w12
     have hs12 : SdAt w12 b { s with d:=.pointer (some ⟨g2,0,none⟩),x:=.pointer none }:=HW9.out.1.below HX.out.2.2.2
     have c6 : w12.cell? ⟨b,6,none⟩ = some (.slice af F.length qf):=(hs12.cell 6).trans (congrArg some HFl.out)
     clear ca c5 cm HRL
     have ca : w12.cell? ⟨W9.heap.size,1,none⟩ = some (.slice a9 L.length q9):=by rw [cell_of_row _ _ _ _ _ _ HX.out.1];rfl
     have HRF : Hid (w12.ownsRow 0 191 4 (.slice af F.length qf) F.length (cellsM F)):=by
      have:=own_below HD9.out.fo HX.out.2.2.2
      rw [HFl.out] at this;exact this
     clear hs12
     go_upto_region 16 with (fail)
     go_cut [] from 105 to 116 (fun wx=>∃ a9 q9,Hid (wx.heap[W9.heap.size]? = some (.cells #[.int .i64 s.n,.slice a9 (L.length + F.length) q9] 132 (0,0))/\wx.ownsRow 0 191 4 (.slice a9 (L.length + F.length) q9) (L.length + F.length) (cellsM (L ++ F))/\InZ (fun k=>W9.heap.size<=k) (.slice a9 (L.length + F.length) q9)/\Below W9.heap.size W9 wx))
     case first =>
      go_region_law
       ((refine step_append_rows rfl _ _ 130 rfl 0 0 191 i0 (.agg #[.bool false,.string ByteArray.empty,.string ByteArray.empty,.slice none 0 0]) 4 64 Tryz.underlying130 hi hi0 hi1 hi2 rfl (by decide) (.slice a9 L.length q9) L.length (cellsM L) rfl (own_drw HX.out.2.1) (.slice af F.length qf) F.length (cellsM F) rfl (own_drw HRF.out) HO2.out (by omega) (by omega) (by omega) ?_);(
        intro v11 w11 hown0 hgrow hv11;have hown : w11.ownsRow 0 191 4 v11 (L.length + F.length) (cellsM (L ++ F)):=(by rw [cellsM_append];exact hown0);obtain ⟨a11,q11,hvs⟩:=own_shape hown;subst hvs;have hb11 : Below W9.heap.size w12 w11:=grown_below hgrow HX.out.2.2.2.size HX.out.2.2.1;have hr11 : w11.heap[W9.heap.size]? = some (.cells #[.int .i64 s.n,.slice a9 L.length q9] 132 (0,0)):=(hgrow.block _ (Array.getElem?_eq_some_iff.1 HX.out.1).1 (own_not HX.out.2.1 HX.out.1 (by decide))).trans HX.out.1;have j1 : w11.cell? ⟨W9.heap.size,1,none⟩ = some (.slice a9 L.length q9):=(by rw [cell_of_row _ _ _ _ _ _ hr11];rfl);have fz11 : ∀ o,w11.frozen? ⟨W9.heap.size,o,none⟩ = false:=(fun o=>frozen_of_row _ _ _ _ _ hr11);have HQ : Hid ((w11.setCell ⟨W9.heap.size,1,none⟩ (.slice a11 (L.length + F.length) q11)).heap[W9.heap.size]? = some (.cells #[.int .i64 s.n,.slice a11 (L.length + F.length) q11] 132 (0,0))/\(w11.setCell ⟨W9.heap.size,1,none⟩ (.slice a11 (L.length + F.length) q11)).ownsRow 0 191 4 (.slice a11 (L.length + F.length) q11) (L.length + F.length) (cellsM (L ++ F))/\InZ (fun k=>W9.heap.size<=k) (.slice a11 (L.length + F.length) q11)/\Below W9.heap.size W9 (w11.setCell ⟨W9.heap.size,1,none⟩ (.slice a11 (L.length + F.length) q11))):=⟨(heap_setCell_self hr11 1 _).trans rfl,own_setCell hown hr11 (by decide),(fun k hk=>by
         rcases hv11 with e | e
         ·rw [e] at hk;exact HX.out.2.2.1 k hk
         ·have h1 : w12.heap.size<=k:=e k hk
          have:=HX.out.2.2.2.size;omega),(HX.out.2.2.2.trans hb11).setCell (Nat.le_refl _) _⟩;clear hown0 hown hgrow hv11 hb11 hr11))
      all_goals
       go_wp2_with fail
       go_meet
       exact ⟨_,_,HQ.out⟩
     case rest =>
      obtain ⟨a13,q13,HX2⟩:=hcut
      rename World=>w14
      clear ca c6 HX HRF
      have HS14 : Hid (SdAt w14 b { s with d:=.pointer (some ⟨g2,0,none⟩),x:=.pointer none }):=HW9.out.1.below HX2.out.2.2.2
      have c5 : w14.cell? ⟨b,5,none⟩ = some (.pointer (some ⟨m,0,none⟩)):=(HS14.out.cell 5).trans (congrArg some HH.out.1.mm)
      have c11 : w14.cell? ⟨b,11,none⟩ = some (.bool s.cr):=(HS14.out.cell 11).trans rfl
      have c7 : w14.cell? ⟨b,7,none⟩ = some (.int .i64 s.held):=(HS14.out.cell 7).trans rfl
      have cm : w14.cell? ⟨m,1,none⟩ = some (.slice ah L.length qh):=by rw [cell_of_row _ _ _ _ _ _ (HD9.out.mi.below HX2.out.2.2.2).hp];rfl
      obtain ⟨N,hN⟩ : ∃ N,L.length + F.length = N:=⟨_,rfl⟩
      rw [hN] at HX2
      have hmdN : md.length<=N:=by
       have h1:=HFn.out.2.1.length_le
       have h2:=HH.out.1.doc.len
       simp at h1;omega
      have ca : w14.cell? ⟨W9.heap.size,1,none⟩ = some (.slice a13 N q13):=by rw [cell_of_row _ _ _ _ _ _ HX2.out.1];rfl
      obtain ⟨a13b,q13b,hov,hNq⟩:=own_le HX2.out.2.1
      injection hov with hv1 hv2 hv3
      rw [<- hv3] at hNq
      clear hv1 hv2 hv3 a13b q13b
      obtain ⟨le,hle⟩ : ∃ le : Int,(if s.cr = true then s.held else (L.length : Int)) = le:=⟨_,rfl⟩
      have HLe : Hid ((if s.cr = true then s.held else (L.length : Int)) = le):=hle
      have hle2 : le<=md.length:=by
       rw [<- hle]
       split
       ·have:=HFn.out.2.2.2.1;have:=HFn.out.1.le;omega
       ·rename_i hh
        have:=HFn.out.2.2.1 (by simpa using hh)
        have:=HH.out.1.doc.len.1
        omega
      have HN : Hid (L.length + F.length = N):=hN
      have hml : md.length<=200000:=HFn.out.1.ml
      obtain ⟨crb,hcr⟩ : ∃ z,s.cr = z:=⟨_,rfl⟩
      have HCr : Hid (s.cr = crb):=hcr
      rw [hcr] at c11
      clear hN hle hcr
      go_upto_if 128 with (fail)
      go_cut [13] from 129 to 132 (fun v13 wx=>v13 = .int .i64 le/\wx = w14)
      case first =>
       cases crb
       ·have h1 : Hid ((L.length : Int) = le):=by show _ = _;have:=HLe.out;rw [HCr.out] at this;simpa using this
        clear hle2
        go_wp2
        go_meet
        exact ⟨by rw [h1.out],rfl⟩
       ·have h1 : s.held = le:=by have:=HLe.out;rw [HCr.out] at this;simpa using this
        rw [h1] at c7
        go_wp2
        go_meet
        exact ⟨rfl,rfl⟩
      case rest =>
       obtain ⟨rfl,hwx⟩:=hcut
       subst hwx
       rename World=>w15
       have hb15 : Below W9.heap.size W9 w15:=HX2.out.2.2.2
       have t15 : Tr (fun k=>k = b\/w7.heap.size<=k) w7 w15:=HW9.out.2.2.trans (below_tr hb15 _)
       have HSto : Hid (∀ X,Tr (fun k=>k = b\/w7.heap.size<=k) w7 X->Sto Z' Y' X x j g2 mv n' D' J S'):=fun X t=>by
        obtain ⟨k1,k2,k3,k4,k5,k6,k7,k8⟩:=HK.out
        have hjl:=k1.jlt
        have:=HB0.out
        refine k1.tr t (fun k hk=>?_)
        rcases hk with rfl | hk
        ·exact ⟨fun hz=>by have:=k6 _ hz;omega,fun hy=>by have:=k7 _ hy;omega,by omega,(HH.out.1.lt _ HH.out.1.zb).1⟩
        ·exact ⟨fun hz=>by have:=k1.lz k hz;omega,fun hy=>by have:=k1.st.lt k hy;omega,by omega,by have:=HS7.out.2.size;omega⟩
       have hsto:=HSto.out w15 t15
       have hct:=counter_any Y' x _ _ mv n' S' w15 hsto.st
       have hcn : S'.cnt = md.length:=HK.out.2.1.cnt
       rw [hcn] at hct
       have HT15 : Hid (Tr (fun k=>k = b\/w7.heap.size<=k) w7 w15):=t15
       have l1 : ¬ (md.length : Int) < le:=by omega
       have l2 : ¬ (N : Int) < (md.length : Int):=by omega
       have l3 : md.length<=q13:=by omega
       have l4 : (md.length : Int)<=(q13 : Int):=by omega
       have l5 : (0 : Int)<=(md.length : Int):=by omega
       have l6 : (md.length : Int).toNat = md.length:=by omega
       have fza : ∀ o,w15.frozen? ⟨W9.heap.size,o,none⟩ = false:=fun o=>frozen_of_row _ _ _ _ _ HX2.out.1
       clear hsto hcn hb15 t15 c5 c11 c7 cm hle2
       go_wp2_with fail
       refine hct.mono ?_
       rintro e w16 ⟨rfl,rfl⟩
       clear hct
       go_upto_region 24 with (fail)
       obtain ⟨W17,hW17,HW17⟩ : ∃ W17,w16.setCell ⟨W9.heap.size,1,none⟩ (.slice a13 md.length q13) = W17/\Hid (Below W9.heap.size W9 W17/\Tr (fun k=>k = b\/w7.heap.size<=k) w7 W17/\ModIn (fun k=>Zm k\/W9.heap.size<=k) W17 W9.heap.size s.n ((L ++ F).take md.length) (.slice a13 md.length q13)/\W17.heap.size = w16.heap.size):=by
        have h9:=HW9.out.2.2.size
        have hbw : Below W9.heap.size W9 (w16.setCell ⟨W9.heap.size,1,none⟩ (.slice a13 md.length q13)):=HX2.out.2.2.2.setCell (Nat.le_refl _) _
        have hlen : ((L ++ F).take md.length).length = md.length:=by
         have:=HN.out
         rw [List.length_take,List.length_append];omega
        refine ⟨_,rfl,hbw,HT15.out.setCell (p:=⟨W9.heap.size,1,none⟩) (.inr h9) _,⟨.inr (Nat.le_refl _),(heap_setCell_self HX2.out.1 1 _).trans rfl,?_,fun y hy=>?_,fun k hk=>.inr (HX2.out.2.2.1 k (by cases a13 <;> exact hk)),fun y hy k hk=>.inl ?_⟩,by simp [World.setCell]⟩
        ·rw [hlen,<- cellsM_take]
         exact own_setCell (own_take HX2.out.2.1 hmdN) HX2.out.1 (by decide)
        ·have hd:=HD9.out.tr (below_tr hbw (fun _=>False)) (fun _ _ h=>h)
         rcases List.mem_append.1 (List.mem_of_mem_take hy) with hy | hy
         ·exact hd.mi.rc y hy
         ·exact hd.fr y hy
        ·rcases List.mem_append.1 (List.mem_of_mem_take hy) with hy | hy
         ·exact HD9.out.mi.zc y hy k hk
         ·exact HD9.out.fy y hy k hk
       rw [hW17]
       have HKe : Hid (∀ X,Below W17.heap.size W17 X->Calls Tryz.prog 28 #[.pointer (some ⟨x,0,none⟩)] X fun e w'=>∃ v ks,e = .returned v/\StKeys (runMt zM md) ks/\OwnX w' X.heap.size v ks/\Below X.heap.size X w'):=fun X hX=>by
        have hst:=(HSto.out X (HW17.out.2.1.trans (below_tr hX _))).st
        have:=skeys_any Y' x _ _ mv n' S' X hst (by have:=HK.out.2.2.1;omega)
        rw [HK.out.2.1.M] at this
        exact this
       have hgd:=HK.out.2.1.good
       have hmap : ((L ++ F).take md.length).map MuV.x = md.map Mt.mu:=by
        have hdd:=HH.out.1.doc
        rw [List.map_take,List.map_append,hdd.me,hdd.fe,<- List.map_append,<- List.map_take]
        congr 1
        obtain ⟨rr,hr⟩:=HFn.out.2.1
        rw [<- hr];simp
       have HRk : Hid (∀ X,Below W17.heap.size W17 X->Calls Tryz.prog 105 #[.pointer (some ⟨W9.heap.size,0,none⟩)] X fun e w'=>∃ v ls,e = .returned v/\KeysOf s.n (md.map Mt.mu) ls/\OwnX w' X.heap.size v ls/\Below X.heap.size X w'):=fun X hX=>by
        have:=refKeys_any (fun k=>Zm k\/W9.heap.size<=k) W9.heap.size s.n _ _ X (HW17.out.2.2.1.below hX) (by rw [List.length_take];omega)
        rw [hmap] at this
        exact this
       have HGd : Hid (GoodM s.n zM 0 md/\((L ++ F).take md.length).map MuV.x = md.map Mt.mu):=⟨hgd,hmap⟩
       clear hW17 ca fza hgd hmap l1 l2 l3 l4 l6 hNq
       go_wp2_with fail
       refine (HKe.out W17 (Below.refl _ _)).mono ?_
       rintro e w18 ⟨vl,ks,rfl,hks,hol,hb18⟩
       obtain ⟨al,ql,hvl⟩:=own_shape hol
       subst hvl
       go_wp2_with fail
       refine (HRk.out w18 hb18).mono ?_
       rintro e w19 ⟨vm,ls,rfl,hls,hom,hb19⟩
       have heq:=keys_same HGd.out.1 hks hls
       subst heq
       obtain ⟨am,qm,hvm⟩:=own_shape hom
       subst hvm
       have hkl:=keys_len hls
       have hst:=sameTexts_any _ _ _ _ ks ks w19 (own_below hol hb19) hom (by omega) (by omega)
       have HKs : Hid (StKeys (runMt zM md) ks/\ks.length<=md.length/\OwnX w19 W17.heap.size (.slice al ks.length ql) ks/\OwnX w19 w18.heap.size (.slice am ks.length qm) ks/\Below W17.heap.size W17 w19/\W17.heap.size<=w18.heap.size/\w18.heap.size<=w19.heap.size):=⟨hks,hkl,own_below hol hb19,hom,belowN hb18 hb19,hb18.size,hb19.size⟩
       clear hks hls hol hom hb18 hb19 HKe HRk
       go_wp2_with fail
       refine hst.mono ?_
       rintro e w20 ⟨r20,rfl,hr20,hb20⟩
       have hr20 : r20 = true:=by simpa using hr20
       subst hr20
       have HB20 : Hid (Below w19.heap.size w19 w20):=hb20
       clear hb20 hst
       have hs20 : SdAt w20 b { s with d:=.pointer (some ⟨g2,0,none⟩),x:=.pointer none }:=HW9.out.1.below (belowN (belowN HW17.out.1 HKs.out.2.2.2.2.1) HB20.out)
       have hb920 : Below W9.heap.size W9 w20:=belowN (belowN HW17.out.1 HKs.out.2.2.2.2.1) HB20.out
       have c4 : w20.cell? ⟨b,4,none⟩ = some (.pointer none):=(hs20.cell 4).trans rfl
       have fz:=hs20.frozen
       have HS20 : Hid (SdAt w20 b { s with d:=.pointer (some ⟨g2,0,none⟩),x:=.pointer none }/\Below W9.heap.size W9 w20):=⟨hs20,hb920⟩
       clear hs20 hb920
       go_upto_region 30 with (fail)
       obtain ⟨W21,hW21,HW21⟩ : ∃ W21,w20.setCell ⟨b,4,none⟩ (.pointer (some ⟨x,0,none⟩)) = W21/\Hid (SdAt W21 b { s with d:=.pointer (some ⟨g2,0,none⟩),x:=.pointer (some ⟨x,0,none⟩) }/\Tr (fun k=>k = b) w20 W21/\W21.heap.size = w20.heap.size) :=
        ⟨_,rfl,(heap_setCell_self HS20.out.1 4 _).trans rfl,(Tr.refl (fun k=>k = b) w20).setCell (p:=⟨b,4,none⟩) rfl _,by simp [World.setCell]⟩
       rw [hW21]
       obtain ⟨n1,_,_⟩:=HR.out W21 _ HW21.out.1 rfl rfl rfl
       have c5 : W21.cell? ⟨b,5,none⟩ = some (.pointer (some ⟨m,0,none⟩)):=(HW21.out.1.cell 5).trans (congrArg some HH.out.1.mm)
       have hal21 : ∀ ob,Below W21.heap.size W21 (W21.alloc ob):=fun ob=>(Below.refl _ _).alloc (Nat.le_refl _) ob
       have a5 : ∀ ob,(W21.alloc ob).cell? ⟨b,5,none⟩ = some (.pointer (some ⟨m,0,none⟩)):=fun ob=>cell_later (hal21 ob) c5
       have af : ∀ ob o,(W21.alloc ob).frozen? ⟨b,o,none⟩ = false:=fun ob o=>(HW21.out.1.below (hal21 ob)).frozen o
       clear hW21 c4 fz hal21
       go_upto_region 31 with (fail)
       obtain ⟨W22,hW22,HW22⟩ : ∃ W22,(W21.alloc (.cells #[.int .i64 s.n,.slice none 0 0] 132)).setCell ⟨b,5,none⟩ (.pointer (some ⟨W21.heap.size,0,none⟩)) = W22/\Hid (SdAt W22 b { s with d:=.pointer (some ⟨g2,0,none⟩),x:=.pointer (some ⟨x,0,none⟩),m:=.pointer (some ⟨W21.heap.size,0,none⟩) }/\Tr (fun k=>k = b) w20 W22/\W22.heap[W21.heap.size]? = some (.cells #[.int .i64 s.n,.slice none 0 0] 132 (0,0))/\W22.heap.size = W21.heap.size + 1):=by
        have ha : Below W21.heap.size W21 (W21.alloc (.cells #[.int .i64 s.n,.slice none 0 0] 132)):=(Below.refl _ _).alloc (Nat.le_refl _) _
        have hlt:=HW21.out.1.lt
        refine ⟨_,rfl,(heap_setCell_self (HW21.out.1.below ha) 5 _).trans rfl,(HW21.out.2.1.trans (below_tr ha _)).setCell (p:=⟨b,5,none⟩) rfl _,?_,by simp [World.setCell]⟩
        rw [Below.heap_setCell _ _ _ _ (fun e : W21.heap.size = b=>by omega)]
        exact heap_alloc_new W21 _
       rw [hW22]
       have d5 : W22.cell? ⟨b,5,none⟩ = some (.pointer (some ⟨W21.heap.size,0,none⟩)):=(HW22.out.1.cell 5).trans rfl
       have dm : W22.cell? ⟨W21.heap.size,1,none⟩ = some (.slice none 0 0):=by rw [cell_of_row _ _ _ _ _ _ HW22.out.2.2.1];rfl
       have HMi : Hid (ModIn (fun k=>Zm k\/W9.heap.size<=k) W22 W9.heap.size s.n ((L ++ F).take md.length) (.slice a13 md.length q13)):=((HW17.out.2.2.1.below HKs.out.2.2.2.2.1).below HB20.out).tr HW22.out.2.1 (fun k hk e=>by
        have e : k = b:=e
        subst e
        rcases hk with hk | hk
        ·exact HH.out.1.b3 hk
        ·have:=HB0.out;have:=HW9.out.2.1.size;omega)
       have dl : ((L ++ F).take md.length).length = md.length:=by have:=HN.out;rw [List.length_take,List.length_append];omega
       have da : W22.cell? ⟨W9.heap.size,1,none⟩ = some (.slice a13 md.length q13):=by rw [cell_of_row _ _ _ _ _ _ HMi.out.hp];rfl
       have HRL2 : Hid (W22.ownsRow 0 191 4 (.slice a13 md.length q13) md.length (cellsM ((L ++ F).take md.length))):=by have:=HMi.out.rh;rw [dl] at this;exact this
       have HO3 : Hid (∀ u ∈ cellsM ((L ++ F).take md.length),u.oneCell' = true):=one_cellsM _ (fun y hy=>(HMi.out.rc y hy).one_cell)
       obtain ⟨LT,hLT⟩ : ∃ LT,cellsM ((L ++ F).take md.length) = LT:=⟨_,rfl⟩
       rw [hLT] at HRL2 HO3
       have HLT : Hid (cellsM ((L ++ F).take md.length) = LT):=hLT
       clear hW22 n1 c5 a5 af dl hLT
       go_cut [] from 179 to 196 (fun wx=>∃ av qv,Hid (wx.heap[W21.heap.size]? = some (.cells #[.int .i64 s.n,.slice av md.length qv] 132 (0,0))/\wx.ownsRow 0 191 4 (.slice av md.length qv) md.length LT/\InZ (fun k=>W21.heap.size<=k) (.slice av md.length qv)/\Below W21.heap.size W22 wx))
       case first =>
        go_region_law
         ((refine step_append_rows rfl _ _ 130 rfl 0 0 191 i0 (.agg #[.bool false,.string ByteArray.empty,.string ByteArray.empty,.slice none 0 0]) 4 64 Tryz.underlying130 hi hi0 hi1 hi2 rfl (by decide) (.slice none 0 0) 0 [] rfl (World.ownsRow_nil _ _ _ _) (.slice a13 md.length q13) md.length LT rfl (own_drw HRL2.out) HO3.out (by omega) (by omega) (by omega) ?_);(
          intro v11 w11 hown0 hgrow hv11;have hown : w11.ownsRow 0 191 4 v11 md.length LT:=(by simpa using hown0);obtain ⟨a11,q11,hvs⟩:=own_shape hown;subst hvs;have hb11 : Below W22.heap.size W22 w11:=grown_below hgrow (Nat.le_refl _) (fun k hk=>by cases hk);have hb21 : Below W21.heap.size W22 w11:=(hb11.mono (by have:=HW22.out.2.2.2;omega));have hr11:=heap_later hb11 HW22.out.2.2.1;have j1:=cell_later hb11 dm;have j5:=cell_later hb11 d5;have fz11 : ∀ o,w11.frozen? ⟨W21.heap.size,o,none⟩ = false:=(fun o=>frozen_of_row _ _ _ _ _ hr11);have HQ : Hid ((w11.setCell ⟨W21.heap.size,1,none⟩ (.slice a11 md.length q11)).heap[W21.heap.size]? = some (.cells #[.int .i64 s.n,.slice a11 md.length q11] 132 (0,0))/\(w11.setCell ⟨W21.heap.size,1,none⟩ (.slice a11 md.length q11)).ownsRow 0 191 4 (.slice a11 md.length q11) md.length LT/\InZ (fun k=>W21.heap.size<=k) (.slice a11 md.length q11)/\Below W21.heap.size W22 (w11.setCell ⟨W21.heap.size,1,none⟩ (.slice a11 md.length q11))):=⟨(heap_setCell_self hr11 1 _).trans rfl,own_setCell hown hr11 (by decide),(fun k hk=>by
           rcases hv11 with e | e
           ·rw [e] at hk;cases hk
           ·have h1 : W22.heap.size<=k:=e k hk
            have:=HW22.out.2.2.2;omega),hb21.setCell (p:=⟨W21.heap.size,1,none⟩) (Nat.le_refl _) _⟩;clear hown0 hown hgrow hv11 hb11 hb21 hr11))
        all_goals
         go_wp2_with fail
         go_meet
         exact ⟨_,_,HQ.out⟩
       case rest =>
        obtain ⟨av,qv,HX3⟩:=hcut
        rename World=>w23
        have HS23 : Hid (SdAt w23 b { s with d:=.pointer (some ⟨g2,0,none⟩),x:=.pointer (some ⟨x,0,none⟩),m:=.pointer (some ⟨W21.heap.size,0,none⟩) }):=(HX3.out.2.2.2.block b (by have:=HW21.out.1.lt;omega)).trans HW22.out.1
        have f6 : w23.cell? ⟨b,6,none⟩ = some (.slice af F.length qf):=(HS23.out.cell 6).trans (congrArg some HFl.out)
        have f7 : w23.cell? ⟨b,7,none⟩ = some (.int .i64 s.held):=(HS23.out.cell 7).trans rfl
        have f8 : w23.cell? ⟨b,8,none⟩ = some (.int .i64 s.un):=(HS23.out.cell 8).trans rfl
        have f9 : w23.cell? ⟨b,9,none⟩ = some (.bool s.cl):=(HS23.out.cell 9).trans rfl
        have f10 : w23.cell? ⟨b,10,none⟩ = some (.bool s.ro):=(HS23.out.cell 10).trans rfl
        have f11 : w23.cell? ⟨b,11,none⟩ = some (.bool s.cr):=(HS23.out.cell 11).trans rfl
        have fz:=HS23.out.frozen
        clear d5 dm da HRL2 HO3
        go_upto_region 38 with (fail)
        obtain ⟨W24,hW24,HW24⟩ : ∃ W24,((((((w23.setCell ⟨b,6,none⟩ (.slice none 0 0)).setCell ⟨b,7,none⟩ (.int .i64 (md.length : Int))).setCell ⟨b,8,none⟩ (.int .i64 0)).setCell ⟨b,9,none⟩ (.bool false)).setCell ⟨b,10,none⟩ (.bool false)).setCell ⟨b,11,none⟩ (.bool false)) = W24/\Hid (SdAt W24 b ⟨.pointer (some ⟨g2,0,none⟩),s.n,s.ev,s.r,.pointer (some ⟨x,0,none⟩),.pointer (some ⟨W21.heap.size,0,none⟩),.slice none 0 0,md.length,0,false,false,false,s.sp,s.ctx⟩/\Tr (fun k=>k = b) w23 W24/\W24.heap.size = w23.heap.size):=by
         have r0:=HS23.out
         have r1:=heap_setCell_self r0 6 (.slice none 0 0)
         have r2:=heap_setCell_self r1 7 (.int .i64 (md.length : Int))
         have r3:=heap_setCell_self r2 8 (.int .i64 0)
         have r4:=heap_setCell_self r3 9 (.bool false)
         have r5:=heap_setCell_self r4 10 (.bool false)
         have r6:=heap_setCell_self r5 11 (.bool false)
         have t0 : Tr (fun k=>k = b) w23 w23:=Tr.refl _ _
         exact ⟨_,rfl,r6.trans rfl,(((((t0.setCell (p:=⟨b,6,none⟩) rfl _).setCell (p:=⟨b,7,none⟩) rfl _).setCell (p:=⟨b,8,none⟩) rfl _).setCell (p:=⟨b,9,none⟩) rfl _).setCell (p:=⟨b,10,none⟩) rfl _).setCell (p:=⟨b,11,none⟩) rfl _,by simp [World.setCell]⟩
        rw [hW24]
        clear hW24 f6 f7 f8 f9 f10 f11 fz
        have HSz : Hid (w.heap.size<=w7.heap.size/\w7.heap.size<=W9.heap.size/\W9.heap.size<=W17.heap.size/\W17.heap.size<=w19.heap.size/\w19.heap.size<=w20.heap.size/\W21.heap.size = w20.heap.size/\W22.heap.size = W21.heap.size + 1/\W22.heap.size<=w23.heap.size/\W24.heap.size = w23.heap.size) :=
         ⟨HS7.out.2.size,HW9.out.2.2.size,HW17.out.1.size,HKs.out.2.2.2.2.1.size,HB20.out.size,HW21.out.2.2,HW22.out.2.2.2,HX3.out.2.2.2.size,HW24.out.2.2⟩
        have HT24 : Hid (Tr (fun k=>k = b\/w7.heap.size<=k) w7 W24/\Tr (fun k=>k = b\/w.heap.size<=k) w W24/\Tr (fun k=>k = b\/w20.heap.size<=k) w20 W24):=by
         have hz:=HSz.out
         have t1 : Tr (fun k=>k = b\/w20.heap.size<=k) w20 W24:=by
          refine (HW22.out.2.1.mono fun k _ hk=>.inl hk).trans ((Below.tr0 HX3.out.2.2.2 (Z:=fun k=>k = b\/w20.heap.size<=k) (fun k hk=>.inr (by omega))).trans (HW24.out.2.1.mono fun k _ hk=>.inl hk))
         have t2 : Tr (fun k=>k = b\/w7.heap.size<=k) w7 w20:=HW17.out.2.1.trans (below_tr (belowN HKs.out.2.2.2.2.1 HB20.out) _)
         have t3 : Tr (fun k=>k = b\/w7.heap.size<=k) w7 W24:=t2.trans (t1.mono fun k _ hk=>hk.imp (fun h=>h) (fun h=>by omega))
         exact ⟨t3,HS7.out.2.trans (t3.mono fun k _ hk=>hk.imp (fun h=>h) (fun h=>by omega)),t1⟩
        have HFd : Hid _:=HH.out.1.found (Ws:=W24) (md:=md) (x:=x) (j:=j) (g:=g2) (m':=W21.heap.size) (n':=n') (A7:=w7.heap.size) (Z':=Z') (Y':=Y') (mv:=mv) (v':=.slice av md.length qv) (D':=D') (J:=J) (S':=S') HSz.out.1 (by have:=HSz.out;omega) (by have:=HSz.out;omega) s.ctx HH.out.1.ct HW24.out.1 (HSto.out W24 HT24.out.1) (fun k hk=>⟨HK.out.2.2.2.2.2.1 k hk,HK.out.1.lz k hk⟩) (fun k hk=>⟨HK.out.2.2.2.2.2.2.1 k hk,HK.out.1.st.lt k hk⟩) ⟨HK.out.2.2.2.2.2.2.2,HK.out.1.jlt⟩ HK.out.2.1 HK.out.2.2.1 HK.out.2.2.2.1 (HK.out.2.2.2.2.1 _ (HH.out.1.dr.bu.mono (by omega))) HT24.out.2.1
         (HW24.out.2.1.heap HX3.out.1 (fun e=>by have e : W21.heap.size = b:=e;have:=HSz.out;have:=HB0.out;omega)) (by have:=own_tr HX3.out.2.1 HW24.out.2.1 (fun k hk e=>by have:=HX3.out.2.2.1 k hk;have e : k = b:=e;have:=HSz.out;have:=HB0.out;omega);rw [<- HLT.out] at this;exact this) (fun k hk=>⟨HX3.out.2.2.1 k hk,by have:=(HX3.out.2.1.lt k hk).2;have:=HSz.out;omega⟩) HFn.out.2.1
        have HEnd : Hid (∀ X (t : ByteArray) (W' : Nat->Prop) (c' : Nat),SdR (fun k=>Z k\/(w.heap.size<=k/\k < w7.heap.size)\/(W21.heap.size<=k/\k < W24.heap.size)) X b ⟨.pointer (some ⟨g2,0,none⟩),s.n,s.ev,s.r,.pointer (some ⟨x,0,none⟩),.pointer (some ⟨W21.heap.size,0,none⟩),.slice none 0 0,md.length,0,false,false,false,s.sp,t⟩ md [] rem g2 W21.heap.size Z' (fun k=>Y' k\/k = j) (fun k=>Zm k\/(W21.heap.size<=k/\k < W24.heap.size)) D' ((L ++ F).take md.length) (.slice av md.length qv) [] n' ->
          WoR W' X q b0 b1 c'->c'<=c + 120001->(∀ z,W' z->W z\/(W17.heap.size<=z/\z < w19.heap.size)\/W24.heap.size<=z)->Tr (fun k=>W k\/k = b\/w.heap.size<=k) w X->OpensW W Z w q b0 b1 b rem c D (.returned (.bool true)) X):=fun X t W' c' hS hW' hc' hz' tr=>by
         have hz:=HSz.out
         obtain ⟨hS0,hW0,hdj,_⟩:=HH.out
         refine ⟨⟨rfl,tr.mono fun k hk hh=>?_,W',_,c',hW',hc',⟨_,_,_,_,_,_,_,_,_,_,_,_,_,hS,fun hh=>by cases hh⟩,fun k hk hw=>?_,fun k hk=>?_,fun k hk=>?_⟩,fun _=>⟨x,(hS.sd.cell 4).trans rfl⟩⟩
         ·rcases hh with hh | hh | hh
          ·exact .inl hh
          ·exact .inr (hh ▸ hS0.zb)
          ·omega
         ·rcases hz' k hw with h1 | h1 | h1
          ·have:=(hW0.five k h1).2
           rcases hk with hk | hk | hk
           ·exact hdj k hk h1
           ·omega
           ·omega
          ·rcases hk with hk | hk | hk
           ·have:=(hS0.lt k hk).2;omega
           ·omega
           ·omega
          ·rcases hk with hk | hk | hk
           ·have:=(hS0.lt k hk).2;omega
           ·omega
           ·omega
         ·rcases hz' k hk with h1 | h1 | h1
          ·exact .inl h1
          ·exact .inr (by omega)
          ·exact .inr (by omega)
         ·rcases hk with hk | hk | hk
          ·exact .inl hk
          ·exact .inr hk.1
          ·exact .inr (by omega)
        have HT24w : Hid (Tr (fun k=>W k\/k = b\/w.heap.size<=k) w W24):=HT24.out.2.1.mono fun k _ hk=>.inr hk
        have HWo : Hid (WoR W W24 q b0 b1 c/\(∀ k,W k->k < w.heap.size)):=⟨HH.out.2.1.tr HT24.out.2.1 (fun k hk hh=>by
         rcases hh with e | e
         ·exact HH.out.2.2.1 b HH.out.1.zb (e ▸ hk)
         ·have:=(HH.out.2.1.five k hk).2;omega),fun k hk=>(HH.out.2.1.five k hk).2⟩
        have HDj : Hid (∀ k,Z k->¬ W k):=HH.out.2.2.1
        have HZl : Hid (∀ k,Z k->k < w.heap.size):=fun k hk=>(HH.out.1.lt k hk).2
        -- the rows of keys,from here on
        have HRows : Hid (∀ X,Tr (fun z=>W z\/z = b\/W24.heap.size<=z) W24 X->OwnX X W17.heap.size (.slice al ks.length ql) ks/\OwnX X w18.heap.size (.slice am ks.length qm) ks):=fun X t=>by
         have hz:=HSz.out
         have hb0:=HB0.out
         obtain ⟨_,_,o1,o2,_,hz1,hz2⟩:=HKs.out
         have t1 : Tr (fun z=>W z\/z = b\/w20.heap.size<=z) w19 X:=(below_tr HB20.out _).trans ((HT24.out.2.2.mono fun k _ hk=>.inr hk).trans (t.mono fun k _ hk=>hk.imp (fun h=>h) (fun h=>h.imp (fun h=>h) (fun h=>by omega))))
         refine ⟨own_tr o1 t1 (fun k hk hh=>?_),own_tr o2 t1 (fun k hk hh=>?_)⟩
         ·have h1:=o1.lt k hk
          rcases hh with hh | hh | hh
          ·have:=HWo.out.2 k hh;omega
          ·omega
          ·omega
         ·have h1:=o2.lt k hk
          rcases hh with hh | hh | hh
          ·have:=HWo.out.2 k hh;omega
          ·omega
          ·omega
        have HGt : Hid (∀ X (t : ByteArray) (W' : Nat->Prop) (c' : Nat) (key : ByteArray),SdR (fun k=>Z k\/(w.heap.size<=k/\k < w7.heap.size)\/(W21.heap.size<=k/\k < W24.heap.size)) X b ⟨.pointer (some ⟨g2,0,none⟩),s.n,s.ev,s.r,.pointer (some ⟨x,0,none⟩),.pointer (some ⟨W21.heap.size,0,none⟩),.slice none 0 0,md.length,0,false,false,false,s.sp,t⟩ md [] rem g2 W21.heap.size Z' (fun k=>Y' k\/k = j) (fun k=>Zm k\/(W21.heap.size<=k/\k < W24.heap.size)) D' ((L ++ F).take md.length) (.slice av md.length qv) [] n' ->
          OpnIn Z' (fun k=>Y' k\/k = j) X g2 D' ⟨.pointer (some ⟨g2,0,none⟩),s.n,s.ev,s.r,.pointer (some ⟨x,0,none⟩),.pointer (some ⟨W21.heap.size,0,none⟩),.slice none 0 0,md.length,0,false,false,false,s.sp,t⟩ md [] n' x j Y' mv J S' ->
          WoR W' X q b0 b1 c'->c'<=20000000000->(∀ z,W' z->W z\/W24.heap.size<=z)->key.size<=40->Calls Tryz.prog 63 #[.pointer (some ⟨q,0,none⟩),.pointer (some ⟨b,0,none⟩),.string key] X fun e w'=>GetW W' (fun k=>Z k\/(w.heap.size<=k/\k < w7.heap.size)\/(W21.heap.size<=k/\k < W24.heap.size)) X q b0 b1 c' b ⟨.pointer (some ⟨g2,0,none⟩),s.n,s.ev,s.r,.pointer (some ⟨x,0,none⟩),.pointer (some ⟨W21.heap.size,0,none⟩),.slice none 0 0,md.length,0,false,false,false,s.sp,t⟩ md [] rem g2 W21.heap.size Z' (fun k=>Y' k\/k = j) (fun k=>Zm k\/(W21.heap.size<=k/\k < W24.heap.size)) D' ((L ++ F).take md.length) (.slice av md.length qv) [] n' x j Y' mv J S' e w'):=fun X t W' c' key hS hO hW' hc' hz' hk=>by
         refine get_opn W' _ q b0 b1 c' b _ md [] rem g2 W21.heap.size Z' _ _ D' _ _ [] n' x j Y' mv J S' key X hS hO hW' (fun k hk hw=>?_) hc' (by unfold maxLen;omega)
         have hz:=HSz.out
         rcases hz' k hw with h1 | h1
         ·have:=HWo.out.2 k h1
          rcases hk with hk | hk | hk
          ·exact HDj.out k hk h1
          ·omega
          ·omega
         ·rcases hk with hk | hk | hk
          ·have:=HZl.out k hk;omega
          ·omega
          ·omega
        have hksz:=keys_size HGd.out.1 HKs.out.1
        have HKz : Hid (∀ k ∈ ks,k.size<=40):=hksz
        have hkn : ks.length<=200000:=by have:=HKs.out.2.1;omega
        have hkc : ks.length<=120000:=by
         have h1:=HKs.out.2.1
         have h2:=HFn.out.2.1.length_le
         have h3:=HH.out.1.len
         simp at h2;omega
        obtain ⟨dead,hdead⟩ : ∃ z,(D'.life == 0) = z:=⟨_,rfl⟩
        have HDd : Hid (∀ X,DiskAt Z' X g2 D'->Calls Tryz.prog 54 #[.pointer (some ⟨g2,0,none⟩)] X fun e w'=>e = .returned (.bool dead)/\w' = X):=fun X hX=>by
         have:=Dead_any Z' g2 D' X hX
         rw [hdead] at this;exact this
        have hcc : c + 120001<=20000000000:=hc
        clear hksz hdead HMi HS23 HW24 HX3 HW22 HW21 HS20 HT24 HSto HK HS7 HF HW5 HFn HD9 HW9 HX2 HS14 hi hi0 hi1 hi2 HO1 HO2 HW10 HT15 HLe HCr HW17 HGd HB20
        obtain ⟨SR,HSR⟩ : ∃ SR : ByteArray->World->Prop,Hid (∀ t wr,SR t wr ↔ (SdR (fun k=>Z k\/(w.heap.size<=k/\k < w7.heap.size)\/(W21.heap.size<=k/\k < W24.heap.size)) wr b ⟨.pointer (some ⟨g2,0,none⟩),s.n,s.ev,s.r,.pointer (some ⟨x,0,none⟩),.pointer (some ⟨W21.heap.size,0,none⟩),.slice none 0 0,md.length,0,false,false,false,s.sp,t⟩ md [] rem g2 W21.heap.size Z' (fun k=>Y' k\/k = j) (fun k=>Zm k\/(W21.heap.size<=k/\k < W24.heap.size)) D' ((L ++ F).take md.length) (.slice av md.length qv) [] n' /\
          OpnIn Z' (fun k=>Y' k\/k = j) wr g2 D' ⟨.pointer (some ⟨g2,0,none⟩),s.n,s.ev,s.r,.pointer (some ⟨x,0,none⟩),.pointer (some ⟨W21.heap.size,0,none⟩),.slice none 0 0,md.length,0,false,false,false,s.sp,t⟩ md [] n' x j Y' mv J S')):=⟨_,fun _ _=>Iff.rfl⟩
        obtain ⟨WR,HWR⟩ : ∃ WR : Nat->World->Prop,Hid (∀ k wr,WR k wr ↔ ∃ (W' : Nat->Prop) (c' : Nat),WoR W' wr q b0 b1 c'/\c'<=c + k/\(∀ z,W' z->W z\/W24.heap.size<=z)/\Tr (fun z=>W z\/z = b\/W24.heap.size<=z) W24 wr):=⟨_,fun _ _=>Iff.rfl⟩
        go_wp2_with fail
        go_loopw [18] (fun i wr=>OpLoop SR WR ks.length i wr) (fun i _=>ks.length - (intOf i).toNat)
        case atStart=>exact ⟨0,s.ctx,Nat.zero_le _,rfl,(HSR.out _ _).2 HFd.out,(HWR.out _ _).2 ⟨W,c,HWo.out.1,by omega,fun z hz=>.inl hz,Tr.refl _ _⟩⟩
        case round =>
         obtain ⟨k,t,hk,rfl,hS0,hW0⟩:=hrel
         have HS : Hid _:=(HSR.out _ _).1 hS0
         obtain ⟨W',c',hW1⟩:=(HWR.out _ _).1 hW0
         have HWk : Hid _:=hW1
         clear hS0 hW0 hW1
         by_cases hlt : k < ks.length
         ·obtain ⟨_,ho2⟩:=HRows.out wr HWk.out.2.2.2
          obtain ⟨_,_,hv,_,_,hcc2⟩:=own_cells ho2
          injection hv with hv1 hv2 hv3
          clear hv2 hv3
          obtain ⟨g,hg,_,hr⟩:=hcc2 (by omega)
          rw [hg] at hv1
          subst hv1
          have e1:=hr k _ (cellsX_at ks k hlt)
          have hks : (tx ks k).size<=40:=by rw [tx_get ks k hlt];exact HKz.out _ (List.getElem_mem _)
          have hgt:=HGt.out wr t W' c' (tx ks k) HS.out.1 HS.out.2 HWk.out.1 (by have:=HWk.out.2.1;omega) HWk.out.2.2.1 hks
          obtain ⟨key,hkey⟩ : ∃ z,tx ks k = z:=⟨_,rfl⟩
          rw [hkey] at e1 hgt
          have q0 : (0 : Int)<=(k : Int):=by omega
          have q1 : (k : Int) < (ks.length : Int):=by omega
          have HL0 : Hid (k < ks.length):=hlt
          clear ho2 hcc2 hr hg hks hkey hlt
          go_wp2_with fail
          refine hgt.mono ?_
          rintro e w26 ⟨rfl,t26,⟨W2,c2,k1,k2,k3⟩,T,hS2,hO2⟩
          have HX : Hid (SdR (fun k=>Z k\/(w.heap.size<=k/\k < w7.heap.size)\/(W21.heap.size<=k/\k < W24.heap.size)) w26 b ⟨.pointer (some ⟨g2,0,none⟩),s.n,s.ev,s.r,.pointer (some ⟨x,0,none⟩),.pointer (some ⟨W21.heap.size,0,none⟩),.slice none 0 0,md.length,0,false,false,false,s.sp,T⟩ md [] rem g2 W21.heap.size Z' (fun k=>Y' k\/k = j) (fun k=>Zm k\/(W21.heap.size<=k/\k < W24.heap.size)) D' ((L ++ F).take md.length) (.slice av md.length qv) [] n' /\
           OpnIn Z' (fun k=>Y' k\/k = j) w26 g2 D' ⟨.pointer (some ⟨g2,0,none⟩),s.n,s.ev,s.r,.pointer (some ⟨x,0,none⟩),.pointer (some ⟨W21.heap.size,0,none⟩),.slice none 0 0,md.length,0,false,false,false,s.sp,T⟩ md [] n' x j Y' mv J S'):=⟨hS2,hO2⟩
          have HY : Hid (WoR W2 w26 q b0 b1 c2/\c2<=c + (k + 1)/\(∀ z,W2 z->W z\/W24.heap.size<=z)/\Tr (fun z=>W z\/z = b\/W24.heap.size<=z) W24 w26):=by
           obtain ⟨f1,f2,f3,f4⟩:=HWk.out
           have hs:=f4.size
           refine ⟨k1,by omega,fun z hz=>?_,f4.trans' t26 fun z hz hh=>?_⟩
           ·rcases k3 z hz with h | h
            ·exact f3 z h
            ·exact .inr (by omega)
           ·rcases hh with hh | hh | hh
            ·exact (f3 z hh).imp (fun h=>h) .inr
            ·exact .inr (.inl hh)
            ·omega
          have hdd:=HDd.out w26 hS2.dk
          have d0 : w26.cell? ⟨b,0,none⟩ = some (.pointer (some ⟨g2,0,none⟩)):=(hS2.sd.cell 0).trans rfl
          clear k1 k2 k3 t26 hS2 hO2 hgt e1 HS HWk
          go_wp2_with fail
          refine hdd.mono ?_
          rintro e w27 ⟨rfl,rfl⟩
          clear hdd d0
          cases dead
          ·go_wp2
           go_roundw
           case rel=>exact ⟨k + 1,T,HL0.out,by go_num,(HSR.out _ _).2 HX.out,(HWR.out _ _).2 ⟨W2,c2,HY.out⟩⟩
           case measure=>have:=HL0.out;simp [intOf];omega
          ·have HF : Hid (OpensW W Z w q b0 b1 b rem c D (.returned (.bool true)) w27):=HEnd.out w27 T W2 c2 HX.out.1 HY.out.1 (by have:=HY.out.2.1;have:=HL0.out;omega) (fun z hz=>(HY.out.2.2.1 z hz).imp (fun h=>h) .inr) (HT24w.out.trans' HY.out.2.2.2 (fun z hz hh=>by
            have hz:=HSz.out
            rcases hh with hh | hh | hh
            ·exact .inl hh
            ·exact .inr (.inl hh)
            ·exact .inr (.inr (by omega))))
           go_wp2
           go_ret
           exact HF.out
         ·have hkk : k = ks.length:=by omega
          have q1 : ¬ (k : Int) < (ks.length : Int):=by omega
          obtain ⟨ho1,_⟩:=HRows.out wr HWk.out.2.2.2
          have hkp:=HWk.out.1.keep (A:=w.heap.size) (.slice al ks.length ql) ks (by have:=HWk.out.2.1;omega) ho1 (by omega) (fun z hz=>by
           have h1:=HKs.out.2.2.1.lt z hz
           have hs:=HSz.out
           refine ⟨fun hw=>?_,by omega⟩
           rcases HWk.out.2.2.1 z hw with h | h
           ·have:=HWo.out.2 z h;omega
           ·omega) h5w (by have:=HWk.out.2.2.2.size;have:=HSz.out;omega)
          have HL0 : Hid (k = ks.length):=hkk
          clear ho1 hlt hk hkk
          go_wp2_with fail
          refine hkp.mono ?_
          rintro e w28 ⟨rfl,hW28,t28⟩
          have HF : Hid (OpensW W Z w q b0 b1 b rem c D (.returned (.bool true)) w28):=by
           obtain ⟨f1,f2,f3,f4⟩:=HWk.out
           have hs:=HSz.out
           have hs4:=f4.size
           have hb0:=HB0.out
           have hlb : ∀ z,(Value.slice al ks.length ql).ownBlock = some z->W17.heap.size<=z/\z < w19.heap.size:=fun z hz=>HKs.out.2.2.1.lt z hz
           have hk0:=HL0.out
           refine HEnd.out w28 t _ (c' + 1) (HS.out.1.tr t28 (fun z hz hh=>?_) (fun z hh=>?_)) hW28 (by omega) (fun z hz=>?_) ((HT24w.out.trans' f4 (fun z hz hh=>?_)).trans' t28 (fun z hz hh=>?_))
           ·rcases hh with hh | hh | hh
            ·rcases f3 z hh with h | h
             ·have:=HWo.out.2 z h
              rcases hz with hz | hz | hz
              ·exact HDj.out z hz h
              ·omega
              ·omega
             ·rcases hz with hz | hz | hz
              ·have:=HZl.out z hz;omega
              ·omega
              ·omega
            ·have:=hlb z hh
             rcases hz with hz | hz | hz
             ·have:=HZl.out z hz;omega
             ·omega
             ·omega
            ·have:=(HS.out.1.lt z hz).2;omega
           ·rcases hh with hh | hh | hh
            ·exact (f1.five z hh).1
            ·have:=hlb z hh;omega
            ·omega
           ·rcases hz.2 with hz | hz | hz
            ·exact (f3 z hz).imp (fun h=>h) .inr
            ·exact .inr (.inl (hlb z hz))
            ·exact .inr (.inr (by omega))
           ·rcases hh with hh | hh | hh
            ·exact .inl hh
            ·exact .inr (.inl hh)
            ·exact .inr (.inr (by omega))
           ·rcases hh with hh | hh | hh
            ·rcases f3 z hh with h | h
             ·exact .inl h
             ·omega
            ·have:=hlb z hh;exact .inr (.inr (by omega))
            ·omega
          clear hW28 t28 hkp
          go_wp2
          go_ret
          exact HF.out
   ·have htr:=trouble_any Z' b g2 D' D.failed w7 d0 h1
    have HK : Hid (DiskAt Z' w7 g2 D'/\DI s.n D' md hdD/\D.failed < D'.failed/\(∀ k,D.Bud (k + 2)->D'.Bud k)/\(∀ k,Z' k->w.heap.size<=k/\k < w7.heap.size)/\(D.Sound->False)):=⟨h1,h2,h3,h4,h5,h6⟩
    clear h1 h2 h3 h4 h5 h6
    go_wp2_with fail
    refine htr.mono ?_
    rintro e w8 ⟨may,rfl,hmay,hb8⟩
    have hmt : may = true:=hmay.2 (.inl HK.out.2.2.1)
    subst hmt
    have hs8:=HS7.out.1.below hb8
    have fz:=hs8.frozen
    have c4 : w8.cell? ⟨b,4,none⟩ = some s.x:=(hs8.cell 4).trans rfl
    have HEnd : Hid (OpensW W Z w q b0 b1 b rem c D (.returned (.bool true)) (w8.setCell ⟨b,4,none⟩ (.pointer none))):=by
     obtain ⟨hS,hW,hdj,hv⟩:=HH.out
     obtain ⟨k1,k2,k3,k4,k5,k6⟩:=HK.out
     obtain ⟨f1,f2,f3,f4,f5⟩:=HFn.out
     have hbz:=hS.lt b hS.zb
     have hlen:=hS.len
     have t8 : Tr (fun k=>k = b\/w.heap.size<=k) w (w8.setCell ⟨b,4,none⟩ (.pointer none)):=(HS7.out.2.trans (below_tr hb8 _)).setCell (p:=⟨b,4,none⟩) (.inl rfl) _
     have tz : Tr (fun k=>W k\/Z k) w (w8.setCell ⟨b,4,none⟩ (.pointer none)):=t8.mono fun k hk hh=>by
      rcases hh with e | e
      ·exact .inr (e ▸ hS.zb)
      ·omega
     have hsz : (w8.setCell ⟨b,4,none⟩ (.pointer none)).heap.size = w8.heap.size:=by simp [World.setCell]
     have hs8':=hb8.size
     have tb : Tr (fun k=>k = b) w8 (w8.setCell ⟨b,4,none⟩ (.pointer none)):=(Tr.refl (fun k=>k = b) w8).setCell (p:=⟨b,4,none⟩) rfl _
     have hpk:=hS.pack (rem:=rem) (w2:=w8) (w':=w8.setCell ⟨b,4,none⟩ (.pointer none)) (s':={ s with d:=.pointer (some ⟨g2,0,none⟩),x:=.pointer none }) (ms':=ms) (fl':=fl) (Zd':=Z') (Zx':=fun _=>False) (Zm':=Zm) (D':=D') (n':=n) (p':=g2) (m':=m)
      (by have:=HS7.out.2.size;omega) (by omega) h5w ((heap_setCell_self hs8 4 _).trans rfl) rfl hS.mm rfl rfl rfl hS.ct ((k1.below hb8).tr tb (fun k hk e=>by have:=k5 k hk;have e : k = b:=e;omega)) ⟨⟨md,hdD,k2,f2,f3,f4,f1.le⟩,k4 _ (hS.dr.bu.mono (by omega))⟩
      (hS.doc.tr t8 (fun k hk hh=>by
       rcases hh with e | e
       ·exact hS.b3 (e ▸ hk)
       ·have:=(hS.lt k (hS.zm k hk)).2;omega)) (.none rfl) (fun k hk=>⟨.inr (k5 k hk).1,by have:=(k5 k hk).2;omega⟩) (fun k hk=>hk.elim) (fun k _ hk=>hk) (fun k hk=>⟨.inl hk,by have:=(hS.lt k (hS.zm k hk)).2;have:=t8.size;omega⟩) (by omega) (by have:=hS.nn;omega) hS.h0 hS.h1 hS.u0 hS.u1
     refine ⟨⟨rfl,tz,W,_,c,hW.tr t8 (fun k hk hh=>?_),by omega,⟨_,_,_,_,_,_,_,_,_,_,_,_,_,hpk,fun _=>rfl⟩,fun k hk hw=>?_,fun k hk=>.inl hk,fun k hk=>hk.imp (fun h=>h) (fun h=>h.1)⟩,fun hs=>(k6 hs).elim⟩
     ·rcases hh with e | e
      ·exact hdj b hS.zb (e ▸ hk)
      ·have:=(hW.five k hk).2;omega
     ·rcases hk with hk | hk
      ·exact hdj k hk hw
      ·have:=(hW.five k hw).2;omega
    clear hmay hb8 htr hs8
    go_wp2
    go_ret
    exact HEnd.out
end Go.Proofs.YtilkdeghknjjhaaGreatDoor
