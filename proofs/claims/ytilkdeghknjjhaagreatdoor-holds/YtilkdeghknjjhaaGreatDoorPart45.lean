/- A part of the proof. -/
import Derived.Test.YtilkdeghknjjhaaGreatDoorPart44
set_option maxRecDepth 20000
set_option maxHeartbeats 3200000
set_option linter.unusedVariables false
namespace Go.Proofs.YtilkdeghknjjhaaGreatDoor
open Go.RowKit M Go.Maps
variable {w w' : World} {Z Zd Zx Zm Y : Nat->Prop} {b rem m n x j : Nat} {s : Sd} {ms fl : List Mt} {D : Dk} {L F : List MuV} {vh mv : Value} {J : Jn} {S : St}
structure OpV where
 K : Int
 oth : Bool
 k : ByteArray
 v : ByteArray
 c : ByteArray
 last : Bool
 A : Int
 B : Int
 n : Value
def OpV.row (o : OpV) : Array Value:=#[.int .i64 o.K,.bool o.oth,.string o.k,.string o.v,.string o.c,.bool o.last,.int .i64 o.A,.int .i64 o.B,o.n]
def OpAt (w : World) (a : Nat) (o : OpV) : Prop:=w.heap[a]? = some (.cells o.row 77 (0,0))
theorem OpAt.cells {a : Nat} {o : OpV} (h : OpAt w a o) : w.cell? ⟨a,0,none⟩ = some (.int .i64 o.K)/\w.cell? ⟨a,2,none⟩ = some (.string o.k)/\w.cell? ⟨a,3,none⟩ = some (.string o.v)/\w.cell? ⟨a,4,none⟩ = some (.string o.c)/\w.cell? ⟨a,5,none⟩ = some (.bool o.last)/\w.cell? ⟨a,6,none⟩ = some (.int .i64 o.A)/\w.cell? ⟨a,8,none⟩ = some o.n:=by
 have hc : ∀ q,w.cell? ⟨a,q,none⟩ = o.row[q]?:=fun q=>by rw [cell_of_row _ _ _ _ _ _ h]
 exact ⟨(hc 0).trans rfl,(hc 2).trans rfl,(hc 3).trans rfl,(hc 4).trans rfl,(hc 5).trans rfl,(hc 6).trans rfl,(hc 8).trans rfl⟩
theorem refPut_s (Z : Nat->Prop) (p : Nat) (node : Int) (L : List MuV) (vh : Value) (k v t : ByteArray) (ro : Bool) (w : World) (h : ModIn Z w p node L vh) (hl : L.length<=1000000000) (hn0 : 0<=node) (hn1 : node<=15) (ht : t.size<=maxLen) :
  Calls Tryz.prog 111 #[.pointer (some ⟨p,0,none⟩),.string k,.string v,.string t,.bool ro] w fun e w'=>∃ (b : Bool) (s1 s2 : ByteArray) (ad : Option Addr) (l c : Nat),e = .returned (.tuple #[.agg #[.bool b,.string s1,.string s2,.slice ad l c],.int .i64 (putE node (L.map MuV.x) k v t ro)]) /\
   (putE node (L.map MuV.x) k v t ro = 0->b = false/\s1 = k/\s2 = v/\w'.ownsRow w.heap.size 183 2 (.slice ad l c) (clkT t).length (cellsE (clkT t)))/\Below w.heap.size w w':=by
 refine (refPut_any Z p node L vh k v t ro w h hl hn0 hn1 ht).mono ?_
 rintro e w' ⟨hP,hb⟩
 rcases hP with ⟨hE,a,⟨b,s1,s2,ad,l,c,rfl⟩,he⟩ | ⟨hE,c,he,ho⟩
 ·exact ⟨b,s1,s2,ad,l,c,he,fun h0=>absurd h0 hE,hb⟩
 ·obtain ⟨ad,cc,rfl⟩:=own_shape ho
  exact ⟨false,k,v,ad,_,cc,by rw [hE];exact he,fun _=>⟨rfl,rfl,rfl,ho⟩,hb⟩
theorem refDel_s (Z : Nat->Prop) (p : Nat) (node : Int) (L : List MuV) (vh : Value) (k t : ByteArray) (ro : Bool) (w : World) (h : ModIn Z w p node L vh) (hl : L.length<=1000000000) (hn0 : 0<=node) (hn1 : node<=15) (ht : t.size<=maxLen) :
  Calls Tryz.prog 114 #[.pointer (some ⟨p,0,none⟩),.string k,.string t,.bool ro] w fun e w'=>∃ (b : Bool) (s1 s2 : ByteArray) (ad : Option Addr) (l c : Nat),e = .returned (.tuple #[.agg #[.bool b,.string s1,.string s2,.slice ad l c],.bool (delE node (L.map MuV.x) k t ro).1,.int .i64 (delE node (L.map MuV.x) k t ro).2]) /\
   (delE node (L.map MuV.x) k t ro = (true,0)->b = true/\s1 = k/\s2 = ⟨#[]⟩/\w'.ownsRow w.heap.size 183 2 (.slice ad l c) (clkT t).length (cellsE (clkT t)))/\Below w.heap.size w w':=by
 refine (refDelete_any Z p node L vh k t ro w h hl hn0 hn1 ht).mono ?_
 rintro e w' ⟨hP,hb⟩
 rcases hP with ⟨hE,a,⟨b,s1,s2,ad,l,c,rfl⟩,he⟩ | ⟨hE,c,he,ho⟩
 ·exact ⟨b,s1,s2,ad,l,c,he,fun h0=>absurd h0 hE,hb⟩
 ·obtain ⟨ad,cc,rfl⟩:=own_shape ho
  exact ⟨true,k,⟨#[]⟩,ad,_,cc,by rw [hE];exact he,fun _=>⟨rfl,rfl,rfl,ho⟩,hb⟩
theorem Below.ofDrew {B : Nat} (h : Below B w.drew w') : Below B w w':=⟨h.os,h.tape,h.output,h.size,h.block⟩
theorem Chg.old {p : Nat} (c : Chg Z w b s ms fl rem p m Zd Zx Zm D L vh F n x j Y mv J S) : ∀ k,Zs Zd Y j k->k < w.heap.size:=fun k hk=>by
 rcases hk with hk | hk | hk
 ·exact (c.h.lt k (c.h.zd k hk)).2
 ·exact (c.h.lt k (c.h.zx k (c.o.yz k hk))).2
 ·rw [hk];exact (c.h.lt j (c.h.zx j c.o.jz)).2
theorem Chg.row {p : Nat} (c : Chg Z w b s ms fl rem p m Zd Zx Zm D L vh F n x j Y mv J S) {X : World} {n' : Nat} {D' : Dk} {J' : Jn} {S' : St} (h : StoX Zd Y X w' x j p n' D' J' S') {o : OpV} (ho : OpAt X w.heap.size o) : OpAt w' w.heap.size o :=
 h.2.heap ho (fun hz=>by have:=c.old _ hz;omega)
theorem changes_put {p : Nat} (c : Chg Z w b s ms fl rem p m Zd Zx Zm D L vh F n x j Y mv J S) (oo : Bool) (ok ov oc : ByteArray) (ol : Bool) (oA oB : Int) (on : Value) (hk : ok.size<=1000000000) (hv : ov.size<=1000000000) (ht : oc.size<=1000000000) :
  Calls Tryz.prog 64 #[.pointer (some ⟨b,0,none⟩),.agg #[.int .i64 1,.bool oo,.string ok,.string ov,.string oc,.bool ol,.int .i64 oA,.int .i64 oB,on]] w fun e w'=>StepE Z w b rem e w':=by
 obtain ⟨W,hW,HB,Hrow⟩ : ∃ W,w.alloc (.cells #[.int .i64 1,.bool oo,.string ok,.string ov,.string oc,.bool ol,.int .i64 oA,.int .i64 oB,on] 77) = W/\Hid (Below w.heap.size w W)/\Hid (OpAt W w.heap.size ⟨1,oo,ok,ov,oc,ol,oA,oB,on⟩) :=
  ⟨_,rfl,(Below.refl _ _).alloc (Nat.le_refl _) _,heap_alloc_new w _⟩
 have HRd : Hid (∀ X,SdAt X b s->_):=fun X hs=>hs.reads c.h.d c.h.mm c.o.hx c.o.cl
 have HSd : Hid (∀ X,Below w.heap.size w X->SdAt X b s):=fun X hX=>c.h.sd.below hX
 obtain ⟨_,_,hDI,_⟩:=c.h.dr.ex
 have HFl : Hid (∀ X,Below w.heap.size w X->Calls Tryz.prog 103 #[.pointer (some ⟨p,0,none⟩)] X fun e w'=>e = .returned (.int .i64 D.failed)/\w' = X):=fun X hX=>Failed_any Zd p D X (c.h.dk.below hX)
 have HLe : Hid (∀ X,Below w.heap.size w X->Calls Tryz.prog 72 #[.pointer (some ⟨p,0,none⟩)] X fun e w'=>e = .returned (.int .i64 (D.cap - D.bytes))/\Below X.heap.size X w'):=fun X hX=>Left_any Zd p D X (c.h.dk.below hX) hDI.wf.ok
 obtain ⟨tt,htt⟩ : ∃ tt,(if ol = true then s.ctx else oc) = tt:=⟨_,rfl⟩
 have htz : tt.size<=1000000000:=by
  rw [<- htt]
  have:=c.h.ct
  split <;> omega
 have HPu : Hid (∀ X,Below w.heap.size w X->OpAt X w.heap.size ⟨1,oo,ok,ov,oc,ol,oA,oB,on⟩->Calls Tryz.prog 25 #[.pointer (some ⟨x,0,none⟩),.string ok,.string ov,.string tt] X fun e w'=>e = .returned (.int .i64 (putF D J S ok ov tt).1)/\StoX Zd Y w w' x j p (n + 2) (putF D J S ok ov tt).2.1 (putF D J S ok ov tt).2.2.1 (putF D J S ok ov tt).2.2.2/\OpAt w' w.heap.size ⟨1,oo,ok,ov,oc,ol,oA,oB,on⟩):=fun X hX hr=>by
  refine (chgPut c ok ov tt hk hv htz X hX).mono ?_
  rintro e w' ⟨he,hx⟩
  exact ⟨he,StoX.below hX hx,c.row hx hr⟩
 have hml:=c.h.doc.len.1
 have hlen:=c.h.len
 have HRP : Hid (∀ X w2,StoX Zd Y w w2 x j p (n + 2) (putF D J S ok ov tt).2.1 (putF D J S ok ov tt).2.2.1 (putF D J S ok ov tt).2.2.2->Below w2.heap.size w2 X->Calls Tryz.prog 111 #[.pointer (some ⟨m,0,none⟩),.string ok,.string ov,.string tt,.bool s.ro] X fun e w'=>∃ (b : Bool) (s1 s2 : ByteArray) (ad : Option Addr) (l c : Nat),e = .returned (.tuple #[.agg #[.bool b,.string s1,.string s2,.slice ad l c],.int .i64 (putE s.n (ms.map Mt.mu) ok ov tt s.ro)]) /\
   (putE s.n (ms.map Mt.mu) ok ov tt s.ro = 0->b = false/\s1 = ok/\s2 = ov/\w'.ownsRow X.heap.size 183 2 (.slice ad l c) (clkT tt).length (cellsE (clkT tt)))/\Below X.heap.size X w'):=fun X w2 hX hb=>by
  obtain ⟨_,h2,_⟩:=c.behind hX
  have:=refPut_s Zm m s.n L vh ok ov tt s.ro X (h2.mi.below hb) (by omega) c.o.doc.n0 c.o.doc.n1 (by unfold maxLen;omega)
  rw [c.h.doc.me] at this
  exact this
 have HEn : Hid (∀ w2,StoX Zd Y w w2 x j p (n + 2) (putF D J S ok ov tt).2.1 (putF D J S ok ov tt).2.2.1 (putF D J S ok ov tt).2.2.2->_):=fun w2 hX=>chgPutEnd c ok ov tt hX
 have HBe : Hid (∀ w2,StoX Zd Y w w2 x j p (n + 2) (putF D J S ok ov tt).2.1 (putF D J S ok ov tt).2.2.1 (putF D J S ok ov tt).2.2.2->w.heap.size<=w2.heap.size/\SdAt w2 b s):=fun w2 hX=>by
  obtain ⟨h1,h2,h3,_⟩:=c.behind hX
  exact ⟨h3.size,h1⟩
 obtain ⟨Q,hQ⟩ : ∃ Q,putF D J S ok ov tt = Q:=⟨_,rfl⟩
 obtain ⟨E,hE⟩ : ∃ E,putE s.n (ms.map Mt.mu) ok ov tt s.ro = E:=⟨_,rfl⟩
 rw [hQ] at HPu HRP HEn HBe
 rw [hE] at HRP HEn
 obtain ⟨Q1,Q2,Q3,Q4⟩:=Q
 have HT : Hid ((if ol = true then s.ctx else oc) = tt):=htt
 clear htt hE hQ hDI hml hlen hk hv ht c
 go_enter Tryz.func64,Tryz.ntmps64
 go_upto_region 1 with (fail)
 clear hW
 obtain ⟨p0,p2,p3,p4,p5,_,_⟩:=Hrow.out.cells
 obtain ⟨q0,q4,q5,q9,q10,q13⟩:=HRd.out W (HSd.out W HB.out)
 go_upto_if 18 with (fail)
 go_cut [5] from 19 to 22 (fun v5 wx=>v5 = .string tt/\wx = W)
 case first =>
  cases ol
  ·have ht : oc = tt:=HT.out
   subst ht
   go_wp2
   go_meet
   exact ⟨rfl,rfl⟩
  ·have ht : s.ctx = tt:=HT.out
   rw [ht] at q13
   go_wp2
   go_meet
   exact ⟨rfl,rfl⟩
 case rest =>
  obtain ⟨rfl,hwc⟩:=hcut
  subst hwc
  go_wp2_with fail
  refine (HFl.out wc HB.out).mono ?_
  rintro e w2 ⟨rfl,rfl⟩
  go_wp2_with fail
  refine (HLe.out w2 HB.out).mono ?_
  rintro e w3 ⟨rfl,hb3⟩
  have HB3 : Hid (Below w.heap.size w w3/\OpAt w3 w.heap.size ⟨1,oo,ok,ov,oc,ol,oA,oB,on⟩):=⟨belowN HB.out hb3,heap_later hb3 Hrow.out⟩
  obtain ⟨x0,x2,x3,x4,x5,_,_⟩:=HB3.out.2.cells
  obtain ⟨y0,y4,y5,y9,y10,y13⟩:=HRd.out w3 (HSd.out w3 HB3.out.1)
  clear q0 q4 q5 q9 q10 q13 p0 p2 p3 p4 p5 hb3 HFl HLe
  go_upto_region 7 with (fail)
  go_cut [8] from 36 to 45 (fun v8 wx=>v8 = .int .i64 Q1/\Hid (StoX Zd Y w wx x j p (n + 2) Q2 Q3 Q4)/\Hid (OpAt wx w.heap.size ⟨1,oo,ok,ov,oc,ol,oA,oB,on⟩))
  case first =>
   go_region_held3 (fun w'=>w'.cell? ⟨b,4,none⟩ = some (.pointer (some ⟨x,0,none⟩))/\w'.cell? ⟨w.heap.size,2,none⟩ = some (.string ok)/\w'.cell? ⟨w.heap.size,3,none⟩ = some (.string ov))
    (first | exact ⟨k4,k2,k3⟩ | exact ⟨y4,x2,x3⟩)
    (first
    | (go_at_call 25;refine (HPu.out _ (by repeat (first | exact HB3.out.1 | refine Below.drew ?_ | refine below_drewN ?_ _)) (by exact HB3.out.2)).mono ?_;rintro e w5 ⟨rfl,hX5,hr5⟩;have HX5 : Hid (StoX Zd Y w w5 x j p (n + 2) Q2 Q3 Q4):=hX5;have HR5 : Hid (OpAt w5 w.heap.size ⟨1,oo,ok,ov,oc,ol,oA,oB,on⟩):=hr5;obtain ⟨_,k2,k3,_,_,_,_⟩:=hr5.cells;obtain ⟨_,k4,_⟩:=HRd.out w5 (HBe.out w5 hX5).2;clear hX5 hr5))
   all_goals
    go_wp2_with fail
    go_meet
    exact ⟨rfl,HX5,HR5⟩
  case rest =>
   obtain ⟨rfl,HX,HR⟩:=hcut
   obtain ⟨hs6,hsd⟩:=HBe.out _ HX.out
   obtain ⟨z0,z2,z3,z4,z5,_,_⟩:=HR.out.cells
   obtain ⟨u0,u4,u5,u9,u10,u13⟩:=HRd.out _ hsd
   have HEE : Hid _:=HEn.out _ HX.out
   have HSz6 : Hid (w.heap.size<=wc.heap.size):=hs6
   have hal : ∀ ob,Below wc.heap.size wc (wc.alloc ob):=fun ob=>(Below.refl _ _).alloc (Nat.le_refl _) ob
   have a2 : ∀ ob,(wc.alloc ob).cell? ⟨w.heap.size,2,none⟩ = some (.string ok):=fun ob=>cell_later (hal ob) z2
   have a3 : ∀ ob,(wc.alloc ob).cell? ⟨w.heap.size,3,none⟩ = some (.string ov):=fun ob=>cell_later (hal ob) z3
   have a5 : ∀ ob,(wc.alloc ob).cell? ⟨b,5,none⟩ = some (.pointer (some ⟨m,0,none⟩)):=fun ob=>cell_later (hal ob) u5
   have a10 : ∀ ob,(wc.alloc ob).cell? ⟨b,10,none⟩ = some (.bool s.ro):=fun ob=>cell_later (hal ob) u10
   clear x0 x2 x3 x4 x5 y0 y4 y5 y9 y10 y13 hsd hs6 u13 z4 z5
   go_upto_region 10 with (fail)
   go_region_held3 (fun w'=>w'.cell? ⟨b,5,none⟩ = some (.pointer (some ⟨m,0,none⟩))/\w'.cell? ⟨b,10,none⟩ = some (.bool s.ro)/\w'.cell? ⟨w.heap.size,2,none⟩ = some (.string ok)/\w'.cell? ⟨w.heap.size,3,none⟩ = some (.string ov))
    (first | exact ⟨cell_later (HS4.out _ _ _ _) u5,cell_later (HS4.out _ _ _ _) u10,cell_later (HS4.out _ _ _ _) z2,cell_later (HS4.out _ _ _ _) z3⟩ | exact ⟨u5,u10,z2,z3⟩ | exact ⟨a5 _,a10 _,a2 _,a3 _⟩ | exact ⟨by assumption,by assumption,by assumption,by assumption⟩ | exact ⟨k5 _,k10 _,k2 _,k3 _⟩)
    (first
    | (go_at_call 111;refine (HRP.out _ wc HX.out (by repeat (first | exact Below.refl _ _ | refine Below.drew ?_ | refine below_drewN ?_ _ | exact (Below.refl _ _).alloc (Nat.le_refl _) _))).mono ?_;rintro e w7 ⟨b',s1,s2,ad,l,cc,rfl,hc0,hb7⟩;have HC0 : Hid _:=hc0;clear hc0;have hb7' : Below wc.heap.size wc w7:=Below.ofDrew hb7;have HB7 : Hid _:=hb7';have f5:=cell_later hb7' u5;have f10:=cell_later hb7' u10;have f2':=cell_later hb7' z2;have f3':=cell_later hb7' z3;have hal7 : ∀ ob,Below w7.heap.size w7 (w7.alloc ob):=(fun ob=>(Below.refl _ _).alloc (Nat.le_refl _) ob);have k5:=(fun ob=>cell_later (hal7 ob) f5);have k10:=(fun ob=>cell_later (hal7 ob) f10);have k2:=(fun ob=>cell_later (hal7 ob) f2');have k3:=(fun ob=>cell_later (hal7 ob) f3');clear hb7 hb7')
    | (go_at_call 111;refine (HRP.out _ wc HX.out (by repeat (first | exact Below.refl _ _ | refine Below.drew ?_ | refine below_drewN ?_ _ | exact (Below.refl _ _).alloc (Nat.le_refl _) _))).mono ?_;rintro e w7 ⟨b',s1,s2,ad,l,cc,rfl,hc0,hb7⟩;have HC0 : Hid _:=hc0;clear hc0;have hbA : Below (wc.alloc (.cells muZ 191)).heap.size (wc.alloc (.cells muZ 191)) w7:=Below.ofDrew hb7;have hrow : w7.heap[wc.heap.size]? = some (.cells muZ 191 (0,0)):=heap_later hbA (heap_alloc_new wc _);have hb7' : Below wc.heap.size wc w7:=belowN (hal _) hbA;have f5:=cell_later hb7' u5;have f10:=cell_later hb7' u10;have f2':=cell_later hb7' z2;have f3':=cell_later hb7' z3;have f0 : w7.cell? ⟨wc.heap.size,0,none⟩ = some (.bool false):=(by rw [cell_of_row _ _ _ _ _ _ hrow];rfl);have f1 : w7.cell? ⟨wc.heap.size,1,none⟩ = some (.string ⟨#[]⟩):=(by rw [cell_of_row _ _ _ _ _ _ hrow];rfl);have f2 : w7.cell? ⟨wc.heap.size,2,none⟩ = some (.string ⟨#[]⟩):=(by rw [cell_of_row _ _ _ _ _ _ hrow];rfl);have f3 : w7.cell? ⟨wc.heap.size,3,none⟩ = some (.slice none 0 0):=(by rw [cell_of_row _ _ _ _ _ _ hrow];rfl);have fz : ∀ q,w7.frozen? ⟨wc.heap.size,q,none⟩ = false:=(fun q=>frozen_of_row _ _ _ _ _ hrow);have HB7 : Hid _:=hb7';have bs4:=(fun va vb vc vd=>(((hb7'.setCell (p:=⟨wc.heap.size,0,none⟩) (Nat.le_refl _) va).setCell (p:=⟨wc.heap.size,1,none⟩) (Nat.le_refl _) vb).setCell (p:=⟨wc.heap.size,2,none⟩) (Nat.le_refl _) vc).setCell (p:=⟨wc.heap.size,3,none⟩) (Nat.le_refl _) vd);have HS4 : Hid _:=bs4;have HRw : Hid _:=hrow;clear bs4 hb7 hb7' hrow hbA))
   ·obtain ⟨W9,hW9,HB9,t0,t1,t2,t3⟩ : ∃ W9,(w7.alloc (.cells #[.bool b',.string s1,.string s2,.slice ad l cc] 191)) = W9/\Hid (Below wc.heap.size wc W9/\Below w7.heap.size w7 W9)/\W9.cell? ⟨w7.heap.size,0,none⟩ = some (.bool b')/\W9.cell? ⟨w7.heap.size,1,none⟩ = some (.string s1)/\W9.cell? ⟨w7.heap.size,2,none⟩ = some (.string s2)/\W9.cell? ⟨w7.heap.size,3,none⟩ = some (.slice ad l cc):=by
     have hr:=heap_alloc_new w7 (.cells #[.bool b',.string s1,.string s2,.slice ad l cc] 191)
     have ha : Below w7.heap.size w7 (w7.alloc (.cells #[.bool b',.string s1,.string s2,.slice ad l cc] 191)):=(Below.refl _ _).alloc (Nat.le_refl _) _
     exact ⟨_,rfl,⟨belowN HB7.out ha,ha⟩,by rw [cell_of_row _ _ _ _ _ _ hr];rfl,by rw [cell_of_row _ _ _ _ _ _ hr];rfl,by rw [cell_of_row _ _ _ _ _ _ hr];rfl,by rw [cell_of_row _ _ _ _ _ _ hr];rfl⟩
    rw [hW9]
    have HC9 : Hid (E = 0->b' = false/\s1 = ok/\s2 = ov/\W9.ownsRow wc.heap.size 183 2 (.slice ad l cc) (clkT tt).length (cellsE (clkT tt))):=fun h0=>by
     obtain ⟨h1,h2,h3,h4⟩:=HC0.out h0
     exact ⟨h1,h2,h3,own_below (own_base h4 (by simp)) HB9.out.2⟩
    clear hW9 f5 f10 f2' f3' k5 k10 k2 k3 hal7 hal a2 a3 a5 a10 z0 z2 z3 u0 u4 u5 u9 u10 HC0
    by_cases hE0 : E = 0
    ·obtain ⟨h1,h2,h3,h4⟩:=HC9.out hE0
     subst h1 h2 h3
     have hdo:=HEE.out.2 hE0 W9 _ HB9.out.1 h4
     clear h4 HC9
     subst hE0
     go_wp2_with fail
     refine hdo.mono ?_
     rintro e w9 ⟨rfl,hS⟩
     have HSx : Hid (StepE Z w b rem (.returned (.bool true)) w9):=⟨rfl,hS⟩
     clear hS hdo
     go_wp2
     go_ret
     exact HSx.out
    ·have hEb : (E != 0) = true:=by simp [hE0]
     have hno:=HEE.out.1 hE0 W9 HB9.out.1
     clear HC9
     go_wp2_with fail
     refine hno.mono ?_
     rintro e w9 ⟨rfl,hS⟩
     have HSx : Hid (StepE Z w b rem (.returned (.bool true)) w9):=⟨rfl,hS⟩
     clear hS hno
     go_wp2
     go_ret
     exact HSx.out
   ·obtain ⟨W9,hW9,HB9,t0,t1,t2,t3⟩ : ∃ W9,((((w7.setCell ⟨wc.heap.size,0,none⟩ (.bool b')).setCell ⟨wc.heap.size,1,none⟩ (.string s1)).setCell ⟨wc.heap.size,2,none⟩ (.string s2)).setCell ⟨wc.heap.size,3,none⟩ (.slice ad l cc)) = W9/\Hid (Below wc.heap.size wc W9/\(∀ {B n : Nat} {v : Value} {xs : List Value},w7.ownsRow B 183 2 v n xs->W9.ownsRow B 183 2 v n xs))/\W9.cell? ⟨wc.heap.size,0,none⟩ = some (.bool b')/\W9.cell? ⟨wc.heap.size,1,none⟩ = some (.string s1)/\W9.cell? ⟨wc.heap.size,2,none⟩ = some (.string s2)/\W9.cell? ⟨wc.heap.size,3,none⟩ = some (.slice ad l cc):=by
     have r0:=HRw.out
     have r1:=heap_setCell_self r0 0 (.bool b')
     have r2:=heap_setCell_self r1 1 (.string s1)
     have r3:=heap_setCell_self r2 2 (.string s2)
     have r4:=heap_setCell_self r3 3 (.slice ad l cc)
     exact ⟨_,rfl,⟨HS4.out _ _ _ _,fun ho=>own_setCell (own_setCell (own_setCell (own_setCell ho r0 (by decide)) r1 (by decide)) r2 (by decide)) r3 (by decide)⟩,by rw [cell_of_row _ _ _ _ _ _ r4];rfl,by rw [cell_of_row _ _ _ _ _ _ r4];rfl,by rw [cell_of_row _ _ _ _ _ _ r4];rfl,by rw [cell_of_row _ _ _ _ _ _ r4];rfl⟩
    rw [hW9]
    have HC9 : Hid (E = 0->b' = false/\s1 = ok/\s2 = ov/\W9.ownsRow wc.heap.size 183 2 (.slice ad l cc) (clkT tt).length (cellsE (clkT tt))):=fun h0=>by
     obtain ⟨h1,h2,h3,h4⟩:=HC0.out h0
     exact ⟨h1,h2,h3,HB9.out.2 (own_base h4 (by simp))⟩
    clear hW9 f5 f10 f2' f3' f0 f1 f2 f3 fz hal a2 a3 a5 a10 z0 z2 z3 u0 u4 u5 u9 u10 HC0
    by_cases hE0 : E = 0
    ·obtain ⟨h1,h2,h3,h4⟩:=HC9.out hE0
     subst h1 h2 h3
     have hdo:=HEE.out.2 hE0 W9 _ HB9.out.1 h4
     clear h4 HC9
     subst hE0
     go_wp2_with fail
     refine hdo.mono ?_
     rintro e w9 ⟨rfl,hS⟩
     have HSx : Hid (StepE Z w b rem (.returned (.bool true)) w9):=⟨rfl,hS⟩
     clear hS hdo
     go_wp2
     go_ret
     exact HSx.out
    ·have hEb : (E != 0) = true:=by simp [hE0]
     have hno:=HEE.out.1 hE0 W9 HB9.out.1
     clear HC9
     go_wp2_with fail
     refine hno.mono ?_
     rintro e w9 ⟨rfl,hS⟩
     have HSx : Hid (StepE Z w b rem (.returned (.bool true)) w9):=⟨rfl,hS⟩
     clear hS hno
     go_wp2
     go_ret
     exact HSx.out
end Go.Proofs.YtilkdeghknjjhaaGreatDoor
