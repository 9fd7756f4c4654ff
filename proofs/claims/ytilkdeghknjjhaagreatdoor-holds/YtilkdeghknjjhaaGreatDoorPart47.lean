/- A part of the proof. -/
import Derived.Test.YtilkdeghknjjhaaGreatDoorPart45
set_option maxRecDepth 20000
set_option maxHeartbeats 3200000
set_option linter.unusedVariables false
namespace Go.Proofs.YtilkdeghknjjhaaGreatDoor
open Go.RowKit M Go.Maps
theorem changes_del {Z : Nat->Prop} {w : World} {b : Nat} {s : Sd} {ms fl : List Mt} {rem p m : Nat} {Zd Zx Zm : Nat->Prop} {D : Dk} {L : List MuV} {vh : Value} {F : List MuV} {n x j : Nat} {Y : Nat->Prop} {mv : Value} {J : Jn} {S : St} (c : Chg Z w b s ms fl rem p m Zd Zx Zm D L vh F n x j Y mv J S) (oo : Bool) (ok ov oc : ByteArray) (ol : Bool) (oA oB : Int) (on : Value) (hk : ok.size<=1000000000) (ht : oc.size<=1000000000) :
  Calls Tryz.prog 64 #[.pointer (some ⟨b,0,none⟩),.agg #[.int .i64 3,.bool oo,.string ok,.string ov,.string oc,.bool ol,.int .i64 oA,.int .i64 oB,on]] w fun e w'=>StepE Z w b rem e w':=by
 obtain ⟨W,hW,HB,Hrow⟩ : ∃ W,w.alloc (.cells #[.int .i64 3,.bool oo,.string ok,.string ov,.string oc,.bool ol,.int .i64 oA,.int .i64 oB,on] 77) = W/\Hid (Below w.heap.size w W)/\Hid (OpAt W w.heap.size ⟨3,oo,ok,ov,oc,ol,oA,oB,on⟩) :=
  ⟨_,rfl,(Below.refl _ _).alloc (Nat.le_refl _) _,heap_alloc_new w _⟩
 have HRd : Hid (∀ X,SdAt X b s->_):=fun X hs=>hs.reads c.h.d c.h.mm c.o.hx c.o.cl
 have HSd : Hid (∀ X,Below w.heap.size w X->SdAt X b s):=fun X hX=>c.h.sd.below hX
 obtain ⟨_,_,hDI,_⟩:=c.h.dr.ex
 have HFl : Hid (∀ X,Below w.heap.size w X->Calls Tryz.prog 103 #[.pointer (some ⟨p,0,none⟩)] X fun e w'=>e = .returned (.int .i64 D.failed)/\w' = X):=fun X hX=>Failed_any Zd p D X (c.h.dk.below hX)
 have HLe : Hid (∀ X,Below w.heap.size w X->Calls Tryz.prog 72 #[.pointer (some ⟨p,0,none⟩)] X fun e w'=>e = .returned (.int .i64 (D.cap - D.bytes))/\Below X.heap.size X w'):=fun X hX=>Left_any Zd p D X (c.h.dk.below hX) hDI.wf.ok
 obtain ⟨tt,htt⟩ : ∃ tt,(if ol = true then s.ctx else oc) = tt:=⟨_,rfl⟩
 have htz : tt.size<=1000000000:=by
  rw [<- htt]
  have:=c.h.ct
  split <;> omega
 have HPu : Hid (∀ X,Below w.heap.size w X->OpAt X w.heap.size ⟨3,oo,ok,ov,oc,ol,oA,oB,on⟩->Calls Tryz.prog 31 #[.pointer (some ⟨x,0,none⟩),.string ok,.string tt] X fun e w'=>e = .returned (.int .i64 (delF D J S ok tt).1)/\StoX Zd Y w w' x j p (n + 2) (delF D J S ok tt).2.1 (delF D J S ok tt).2.2.1 (delF D J S ok tt).2.2.2/\OpAt w' w.heap.size ⟨3,oo,ok,ov,oc,ol,oA,oB,on⟩):=fun X hX hr=>by
  refine (chgDel c ok tt hk htz X hX).mono ?_
  rintro e w' ⟨he,hx⟩
  exact ⟨he,StoX.below hX hx,c.row hx hr⟩
 have hml:=c.h.doc.len.1
 have hlen:=c.h.len
 have HRP : Hid (∀ X w2,StoX Zd Y w w2 x j p (n + 2) (delF D J S ok tt).2.1 (delF D J S ok tt).2.2.1 (delF D J S ok tt).2.2.2->Below w2.heap.size w2 X->Calls Tryz.prog 114 #[.pointer (some ⟨m,0,none⟩),.string ok,.string tt,.bool s.ro] X fun e w'=>∃ (b : Bool) (s1 s2 : ByteArray) (ad : Option Addr) (l c : Nat),e = .returned (.tuple #[.agg #[.bool b,.string s1,.string s2,.slice ad l c],.bool (delE s.n (ms.map Mt.mu) ok tt s.ro).1,.int .i64 (delE s.n (ms.map Mt.mu) ok tt s.ro).2]) /\
   (delE s.n (ms.map Mt.mu) ok tt s.ro = (true,0)->b = true/\s1 = ok/\s2 = ⟨#[]⟩/\w'.ownsRow X.heap.size 183 2 (.slice ad l c) (clkT tt).length (cellsE (clkT tt)))/\Below X.heap.size X w'):=fun X w2 hX hb=>by
  obtain ⟨_,h2,_⟩:=c.behind hX
  have:=refDel_s Zm m s.n L vh ok tt s.ro X (h2.mi.below hb) (by omega) c.o.doc.n0 c.o.doc.n1 (by unfold maxLen;omega)
  rw [c.h.doc.me] at this
  exact this
 have HEn : Hid (∀ w2,StoX Zd Y w w2 x j p (n + 2) (delF D J S ok tt).2.1 (delF D J S ok tt).2.2.1 (delF D J S ok tt).2.2.2->_):=fun w2 hX=>chgDelEnd c ok tt hX
 have HBe : Hid (∀ w2,StoX Zd Y w w2 x j p (n + 2) (delF D J S ok tt).2.1 (delF D J S ok tt).2.2.1 (delF D J S ok tt).2.2.2->w.heap.size<=w2.heap.size/\SdAt w2 b s):=fun w2 hX=>by
  obtain ⟨h1,h2,h3,_⟩:=c.behind hX
  exact ⟨h3.size,h1⟩
 obtain ⟨Q,hQ⟩ : ∃ Q,delF D J S ok tt = Q:=⟨_,rfl⟩
 obtain ⟨E,hE⟩ : ∃ E,delE s.n (ms.map Mt.mu) ok tt s.ro = E:=⟨_,rfl⟩
 rw [hQ] at HPu HRP HEn HBe
 rw [hE] at HRP HEn
 obtain ⟨Q1,Q2,Q3,Q4⟩:=Q
 have HT : Hid ((if ol = true then s.ctx else oc) = tt):=htt
 obtain ⟨E1,E2⟩:=E
 clear htt hE hQ hDI hml hlen hk ht c
 go_enter Tryz.func64,Tryz.ntmps64
 go_upto_region 1 with (fail)
 clear hW
 obtain ⟨p0,p2,p3,p4,p5,_,_⟩:=Hrow.out.cells
 obtain ⟨q0,q4,q5,q9,q10,q13⟩:=HRd.out W (HSd.out W HB.out)
 go_upto_if 18 with (fail)
 go_cut [5] from 19 to 22 (fun v5 wx=>v5 = .string tt/\wx = W)
 case first =>
  cases ol
  ·have ht : oc = tt:=HT.out
   subst ht
   go_wp2
   go_meet
   exact ⟨rfl,rfl⟩
  ·have ht : s.ctx = tt:=HT.out
   rw [ht] at q13
   go_wp2
   go_meet
   exact ⟨rfl,rfl⟩
 case rest =>
  obtain ⟨rfl,hwc⟩:=hcut
  subst hwc
  go_wp2_with fail
  refine (HFl.out wc HB.out).mono ?_
  rintro e w2 ⟨rfl,rfl⟩
  go_wp2_with fail
  refine (HLe.out w2 HB.out).mono ?_
  rintro e w3 ⟨rfl,hb3⟩
  have HB3 : Hid (Below w.heap.size w w3/\OpAt w3 w.heap.size ⟨3,oo,ok,ov,oc,ol,oA,oB,on⟩):=⟨belowN HB.out hb3,heap_later hb3 Hrow.out⟩
  obtain ⟨x0,x2,x3,x4,x5,_,_⟩:=HB3.out.2.cells
  obtain ⟨y0,y4,y5,y9,y10,y13⟩:=HRd.out w3 (HSd.out w3 HB3.out.1)
  clear q0 q4 q5 q9 q10 q13 p0 p2 p3 p4 p5 hb3 HFl HLe
  go_upto_region 14 with (fail)
  go_cut [11] from 82 to 89 (fun v8 wx=>v8 = .int .i64 Q1/\Hid (StoX Zd Y w wx x j p (n + 2) Q2 Q3 Q4)/\Hid (OpAt wx w.heap.size ⟨3,oo,ok,ov,oc,ol,oA,oB,on⟩))
  case first =>
   go_region_held3 (fun w'=>w'.cell? ⟨b,4,none⟩ = some (.pointer (some ⟨x,0,none⟩))/\w'.cell? ⟨w.heap.size,2,none⟩ = some (.string ok))
    (first | exact ⟨k4,k2⟩ | exact ⟨y4,x2⟩)
    (first
    | (go_at_call 31;refine (HPu.out _ (by repeat (first | exact HB3.out.1 | refine Below.drew ?_ | refine below_drewN ?_ _)) (by exact HB3.out.2)).mono ?_;rintro e w5 ⟨rfl,hX5,hr5⟩;have HX5 : Hid (StoX Zd Y w w5 x j p (n + 2) Q2 Q3 Q4):=hX5;have HR5 : Hid (OpAt w5 w.heap.size ⟨3,oo,ok,ov,oc,ol,oA,oB,on⟩):=hr5;obtain ⟨_,k2,k3,_,_,_,_⟩:=hr5.cells;obtain ⟨_,k4,_⟩:=HRd.out w5 (HBe.out w5 hX5).2;clear hX5 hr5))
   all_goals
    go_wp2_with fail
    go_meet
    exact ⟨rfl,HX5,HR5⟩
  case rest =>
   obtain ⟨rfl,HX,HR⟩:=hcut
   obtain ⟨hs6,hsd⟩:=HBe.out _ HX.out
   obtain ⟨z0,z2,z3,z4,z5,_,_⟩:=HR.out.cells
   obtain ⟨u0,u4,u5,u9,u10,u13⟩:=HRd.out _ hsd
   have HEE : Hid _:=HEn.out _ HX.out
   have HSz6 : Hid (w.heap.size<=wc.heap.size):=hs6
   have hal : ∀ ob,Below wc.heap.size wc (wc.alloc ob):=fun ob=>(Below.refl _ _).alloc (Nat.le_refl _) ob
   have a2 : ∀ ob,(wc.alloc ob).cell? ⟨w.heap.size,2,none⟩ = some (.string ok):=fun ob=>cell_later (hal ob) z2
   have a3 : ∀ ob,(wc.alloc ob).cell? ⟨w.heap.size,3,none⟩ = some (.string ov):=fun ob=>cell_later (hal ob) z3
   have a5 : ∀ ob,(wc.alloc ob).cell? ⟨b,5,none⟩ = some (.pointer (some ⟨m,0,none⟩)):=fun ob=>cell_later (hal ob) u5
   have a10 : ∀ ob,(wc.alloc ob).cell? ⟨b,10,none⟩ = some (.bool s.ro):=fun ob=>cell_later (hal ob) u10
   clear x0 x2 x3 x4 x5 y0 y4 y5 y9 y10 y13 hsd hs6 u13 z4 z5
   go_upto_region 17 with (fail)
   go_region_held3 (fun w'=>w'.cell? ⟨b,5,none⟩ = some (.pointer (some ⟨m,0,none⟩))/\w'.cell? ⟨b,10,none⟩ = some (.bool s.ro)/\w'.cell? ⟨w.heap.size,2,none⟩ = some (.string ok))
    (first | exact ⟨cell_later (HS4.out _ _ _ _) u5,cell_later (HS4.out _ _ _ _) u10,cell_later (HS4.out _ _ _ _) z2⟩ | exact ⟨u5,u10,z2⟩ | exact ⟨a5 _,a10 _,a2 _⟩ | exact ⟨by assumption,by assumption,by assumption⟩ | exact ⟨k5 _,k10 _,k2 _⟩)
    (first
    | (go_at_call 114;refine (HRP.out _ wc HX.out (by repeat (first | exact Below.refl _ _ | refine Below.drew ?_ | refine below_drewN ?_ _ | exact (Below.refl _ _).alloc (Nat.le_refl _) _))).mono ?_;rintro e w7 ⟨b',s1,s2,ad,l,cc,rfl,hc0,hb7⟩;have HC0 : Hid _:=hc0;clear hc0;have hb7' : Below wc.heap.size wc w7:=Below.ofDrew hb7;have HB7 : Hid _:=hb7';have f5:=cell_later hb7' u5;have f10:=cell_later hb7' u10;have f2':=cell_later hb7' z2;have f3':=cell_later hb7' z3;have hal7 : ∀ ob,Below w7.heap.size w7 (w7.alloc ob):=(fun ob=>(Below.refl _ _).alloc (Nat.le_refl _) ob);have k5:=(fun ob=>cell_later (hal7 ob) f5);have k10:=(fun ob=>cell_later (hal7 ob) f10);have k2:=(fun ob=>cell_later (hal7 ob) f2');have k3:=(fun ob=>cell_later (hal7 ob) f3');clear hb7 hb7')
    | (go_at_call 114;refine (HRP.out _ wc HX.out (by repeat (first | exact Below.refl _ _ | refine Below.drew ?_ | refine below_drewN ?_ _ | exact (Below.refl _ _).alloc (Nat.le_refl _) _))).mono ?_;rintro e w7 ⟨b',s1,s2,ad,l,cc,rfl,hc0,hb7⟩;have HC0 : Hid _:=hc0;clear hc0;have hbA : Below (wc.alloc (.cells muZ 191)).heap.size (wc.alloc (.cells muZ 191)) w7:=Below.ofDrew hb7;have hrow : w7.heap[wc.heap.size]? = some (.cells muZ 191 (0,0)):=heap_later hbA (heap_alloc_new wc _);have hb7' : Below wc.heap.size wc w7:=belowN (hal _) hbA;have f5:=cell_later hb7' u5;have f10:=cell_later hb7' u10;have f2':=cell_later hb7' z2;have f3':=cell_later hb7' z3;have f0 : w7.cell? ⟨wc.heap.size,0,none⟩ = some (.bool false):=(by rw [cell_of_row _ _ _ _ _ _ hrow];rfl);have f1 : w7.cell? ⟨wc.heap.size,1,none⟩ = some (.string ⟨#[]⟩):=(by rw [cell_of_row _ _ _ _ _ _ hrow];rfl);have f2 : w7.cell? ⟨wc.heap.size,2,none⟩ = some (.string ⟨#[]⟩):=(by rw [cell_of_row _ _ _ _ _ _ hrow];rfl);have f3 : w7.cell? ⟨wc.heap.size,3,none⟩ = some (.slice none 0 0):=(by rw [cell_of_row _ _ _ _ _ _ hrow];rfl);have fz : ∀ q,w7.frozen? ⟨wc.heap.size,q,none⟩ = false:=(fun q=>frozen_of_row _ _ _ _ _ hrow);have HB7 : Hid _:=hb7';have bs4:=(fun va vb vc vd=>(((hb7'.setCell (p:=⟨wc.heap.size,0,none⟩) (Nat.le_refl _) va).setCell (p:=⟨wc.heap.size,1,none⟩) (Nat.le_refl _) vb).setCell (p:=⟨wc.heap.size,2,none⟩) (Nat.le_refl _) vc).setCell (p:=⟨wc.heap.size,3,none⟩) (Nat.le_refl _) vd);have HS4 : Hid _:=bs4;have HRw : Hid _:=hrow;clear bs4 hb7 hb7' hrow hbA))
   ·obtain ⟨W9,hW9,HB9,t0,t1,t2,t3⟩ : ∃ W9,(w7.alloc (.cells #[.bool b',.string s1,.string s2,.slice ad l cc] 191)) = W9/\Hid (Below wc.heap.size wc W9/\Below w7.heap.size w7 W9)/\W9.cell? ⟨w7.heap.size,0,none⟩ = some (.bool b')/\W9.cell? ⟨w7.heap.size,1,none⟩ = some (.string s1)/\W9.cell? ⟨w7.heap.size,2,none⟩ = some (.string s2)/\W9.cell? ⟨w7.heap.size,3,none⟩ = some (.slice ad l cc):=by
     have hr:=heap_alloc_new w7 (.cells #[.bool b',.string s1,.string s2,.slice ad l cc] 191)
     have ha : Below w7.heap.size w7 (w7.alloc (.cells #[.bool b',.string s1,.string s2,.slice ad l cc] 191)):=(Below.refl _ _).alloc (Nat.le_refl _) _
     exact ⟨_,rfl,⟨belowN HB7.out ha,ha⟩,by rw [cell_of_row _ _ _ _ _ _ hr];rfl,by rw [cell_of_row _ _ _ _ _ _ hr];rfl,by rw [cell_of_row _ _ _ _ _ _ hr];rfl,by rw [cell_of_row _ _ _ _ _ _ hr];rfl⟩
    rw [hW9]
    have HC9 : Hid ((E1,E2) = (true,(0 : Int))->b' = true/\s1 = ok/\s2 = ⟨#[]⟩/\W9.ownsRow wc.heap.size 183 2 (.slice ad l cc) (clkT tt).length (cellsE (clkT tt))):=fun h0=>by
     obtain ⟨h1,h2,h3,h4⟩:=HC0.out h0
     exact ⟨h1,h2,h3,own_below (own_base h4 (by simp)) HB9.out.2⟩
    clear hW9 f5 f10 f2' f3' k5 k10 k2 k3 hal7 hal a2 a3 a5 a10 z0 z2 z3 u0 u4 u5 u9 u10 HC0
    by_cases hE0 : (E1,E2) = (true,(0 : Int))
    ·obtain ⟨h1,h2,h3,h4⟩:=HC9.out hE0
     subst h1 h2 h3
     have hdo:=HEE.out.2 hE0 W9 _ HB9.out.1 h4
     clear h4 HC9
     injection hE0 with hE1 hE2
     subst hE1 hE2
     go_wp2_with fail
     refine hdo.mono ?_
     rintro e w9 ⟨rfl,hS⟩
     have HSx : Hid (StepE Z w b rem (.returned (.bool true)) w9):=⟨rfl,hS⟩
     clear hS hdo
     go_wp2
     go_ret
     exact HSx.out
    ·have hno:=HEE.out.1 hE0 W9 HB9.out.1
     have hor : E2 ≠ 0\/(E2 = 0/\E1 = false):=by
      by_cases h2 : E2 = 0
      ·refine .inr ⟨h2,?_⟩
       cases E1
       ·rfl
       ·exact absurd (by rw [h2]) hE0
      ·exact .inl h2
     clear HC9 hE0
     rcases hor with h2 | ⟨h2,h1⟩
     ·have hEb : (E2 != 0) = true:=by simp [h2]
      go_wp2_with fail
      refine hno.mono ?_
      rintro e w9 ⟨rfl,hS⟩
      have HSx : Hid (StepE Z w b rem (.returned (.bool true)) w9):=⟨rfl,hS⟩
      clear hS hno
      go_wp2
      go_ret
      exact HSx.out
     ·subst h1 h2
      go_wp2_with fail
      refine hno.mono ?_
      rintro e w9 ⟨rfl,hS⟩
      have HSx : Hid (StepE Z w b rem (.returned (.bool true)) w9):=⟨rfl,hS⟩
      clear hS hno
      go_wp2
      go_ret
      exact HSx.out
   ·obtain ⟨W9,hW9,HB9,t0,t1,t2,t3⟩ : ∃ W9,((((w7.setCell ⟨wc.heap.size,0,none⟩ (.bool b')).setCell ⟨wc.heap.size,1,none⟩ (.string s1)).setCell ⟨wc.heap.size,2,none⟩ (.string s2)).setCell ⟨wc.heap.size,3,none⟩ (.slice ad l cc)) = W9/\Hid (Below wc.heap.size wc W9/\(∀ {B n : Nat} {v : Value} {xs : List Value},w7.ownsRow B 183 2 v n xs->W9.ownsRow B 183 2 v n xs))/\W9.cell? ⟨wc.heap.size,0,none⟩ = some (.bool b')/\W9.cell? ⟨wc.heap.size,1,none⟩ = some (.string s1)/\W9.cell? ⟨wc.heap.size,2,none⟩ = some (.string s2)/\W9.cell? ⟨wc.heap.size,3,none⟩ = some (.slice ad l cc):=by
     have r0:=HRw.out
     have r1:=heap_setCell_self r0 0 (.bool b')
     have r2:=heap_setCell_self r1 1 (.string s1)
     have r3:=heap_setCell_self r2 2 (.string s2)
     have r4:=heap_setCell_self r3 3 (.slice ad l cc)
     exact ⟨_,rfl,⟨HS4.out _ _ _ _,fun ho=>own_setCell (own_setCell (own_setCell (own_setCell ho r0 (by decide)) r1 (by decide)) r2 (by decide)) r3 (by decide)⟩,by rw [cell_of_row _ _ _ _ _ _ r4];rfl,by rw [cell_of_row _ _ _ _ _ _ r4];rfl,by rw [cell_of_row _ _ _ _ _ _ r4];rfl,by rw [cell_of_row _ _ _ _ _ _ r4];rfl⟩
    rw [hW9]
    have HC9 : Hid ((E1,E2) = (true,(0 : Int))->b' = true/\s1 = ok/\s2 = ⟨#[]⟩/\W9.ownsRow wc.heap.size 183 2 (.slice ad l cc) (clkT tt).length (cellsE (clkT tt))):=fun h0=>by
     obtain ⟨h1,h2,h3,h4⟩:=HC0.out h0
     exact ⟨h1,h2,h3,HB9.out.2 (own_base h4 (by simp))⟩
    clear hW9 f5 f10 f2' f3' f0 f1 f2 f3 fz hal a2 a3 a5 a10 z0 z2 z3 u0 u4 u5 u9 u10 HC0
    by_cases hE0 : (E1,E2) = (true,(0 : Int))
    ·obtain ⟨h1,h2,h3,h4⟩:=HC9.out hE0
     subst h1 h2 h3
     have hdo:=HEE.out.2 hE0 W9 _ HB9.out.1 h4
     clear h4 HC9
     injection hE0 with hE1 hE2
     subst hE1 hE2
     go_wp2_with fail
     refine hdo.mono ?_
     rintro e w9 ⟨rfl,hS⟩
     have HSx : Hid (StepE Z w b rem (.returned (.bool true)) w9):=⟨rfl,hS⟩
     clear hS hdo
     go_wp2
     go_ret
     exact HSx.out
    ·have hno:=HEE.out.1 hE0 W9 HB9.out.1
     have hor : E2 ≠ 0\/(E2 = 0/\E1 = false):=by
      by_cases h2 : E2 = 0
      ·refine .inr ⟨h2,?_⟩
       cases E1
       ·rfl
       ·exact absurd (by rw [h2]) hE0
      ·exact .inl h2
     clear HC9 hE0
     rcases hor with h2 | ⟨h2,h1⟩
     ·have hEb : (E2 != 0) = true:=by simp [h2]
      go_wp2_with fail
      refine hno.mono ?_
      rintro e w9 ⟨rfl,hS⟩
      have HSx : Hid (StepE Z w b rem (.returned (.bool true)) w9):=⟨rfl,hS⟩
      clear hS hno
      go_wp2
      go_ret
      exact HSx.out
     ·subst h1 h2
      go_wp2_with fail
      refine hno.mono ?_
      rintro e w9 ⟨rfl,hS⟩
      have HSx : Hid (StepE Z w b rem (.returned (.bool true)) w9):=⟨rfl,hS⟩
      clear hS hno
      go_wp2
      go_ret
      exact HSx.out
end Go.Proofs.YtilkdeghknjjhaaGreatDoor
