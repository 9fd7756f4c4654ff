/- A part of the proof. -/
import Derived.Test.YtilkdeghknjjhaaGreatDoorPart34
set_option maxRecDepth 20000
set_option maxHeartbeats 3200000
set_option linter.unusedVariables false
namespace Go.Proofs.YtilkdeghknjjhaaGreatDoor
open Go.RowKit M Go.Maps
variable {X : World} {g : Nat} {b : Value}
noncomputable def outF (E : Se) (m : Mt) : List (Int × Int) × List Sb × Int:=if m.del = true then disF E.C m.c E.L else updF E.C m.c E.L m.node m.count m.v
theorem result_out (tmps : Array Value) (w : World) (g : Nat) (v1 v2 : Value) (n : Int) (h4 : tmps.getD 4 undef = .pointer (some ⟨g,0,none⟩)) (h5 : tmps.getD 5 undef = .int .i64 n) (hg : w.heap[g]? = some (.cells #[v1,v2] 117 (0,0))) :
  (results Tryz.f91 tmps).run Tryz.prog w = .ok (.tuple #[.agg #[v1,v2],.int .i64 n]) w:=by
 have hl:=run_loadVar_row (P:=Tryz.prog) w g 117 117 #[v1,v2] (0,0) _ hg Tryz.underlying117 rfl info38
 have h4' : tmps[4]?.getD undef = .pointer (some ⟨g,0,none⟩):=by simpa using h4
 have h5' : tmps[5]?.getD undef = .int .i64 n:=by simpa using h5
 simp [results,Tryz.results91,h4',h5',asAddr,hl]
theorem row_c0 {a : Value} {t : TypeId} (h : X.heap[g]? = some (.cells #[a,b] t (0,0))) : X.cell? ⟨g,0,none⟩ = some a:=by rw [cell_of_row _ _ _ _ _ _ h];rfl
theorem row_c1 {a : Value} {t : TypeId} (h : X.heap[g]? = some (.cells #[a,b] t (0,0))) : X.cell? ⟨g,1,none⟩ = some b:=by rw [cell_of_row _ _ _ _ _ _ h];rfl
theorem row_fz {a : Value} {t : TypeId} (h : X.heap[g]? = some (.cells #[a,b] t (0,0))) (o : Nat) : X.frozen? ⟨g,o,none⟩ = false:=frozen_of_row _ _ _ _ _ h
theorem outcome_any (Y : Nat->Prop) (s : Nat) (dv jv mv : Value) (n : Nat) (S : St) (m : Mt) (vc : Value) (w : World) (h : StIn Y w s dv jv mv n S) (hrd : Rd w vc m.c) (hk : m.k.size<=maxLen) :
  Calls Tryz.prog 91 #[.pointer (some ⟨s,0,none⟩),mtV m vc] w fun e w'=>SetF (outF (S.M m.k) m) w e w':=by
 obtain ⟨del,node,count,k,c,v⟩:=m
 simp only at hrd hk
 obtain ⟨av,lv,cv,rfl⟩ : ∃ a l cap,vc = .slice a l cap:=by obtain ⟨a,cap,h,_⟩:=hrd;exact ⟨_,_,_,h⟩
 obtain ⟨E,hE⟩ : ∃ E,S.M k = E:=⟨_,rfl⟩
 obtain ⟨T,hT,hSet,_⟩:=h.tab.get k
 rw [hE] at hSet ⊢
 obtain ⟨uc,ul,hu,o1,o2,_,_⟩:=hSet.ex
 obtain ⟨a1,q1,rfl⟩:=own_shape o1
 obtain ⟨a2,q2,rfl⟩:=own_shape o2
 have c5 : w.cell? ⟨s,5,none⟩ = some mv:=(h.cell 5).trans rfl
 have HG : Hid (∀ X,Below w.heap.size w X->Calls Tryz.prog 55 #[.pointer (some ⟨s,5,none⟩),.string k] X fun e w'=>(∃ b,e = .returned (.tuple #[.agg #[.slice a1 E.C.length q1,.slice a2 E.L.length q2],.bool b]))/\Below X.heap.size X w'):=fun X hX=>by
  have:=tGet_any s 5 mv n T k X (cell_later hX c5) (hT.below hX) hk
  rw [hu] at this
  exact this.mono fun e w' ⟨he,hb⟩=>⟨⟨_,he⟩,hb⟩
 have HD : Hid (∀ X,Below w.heap.size w X->Calls Tryz.prog 154 #[.agg #[.slice a1 E.C.length q1,.slice a2 E.L.length q2],.slice av lv cv] X fun e w'=>SetF (disF E.C c E.L) X e w'):=fun X hX =>
  (Discard_u _ _ _ _ _ _ X ((Rd.own o1 rfl).below hX) ((RdS.own o2 rfl).below hX) (hrd.below hX)).mono fun e w' hh=>hh.dis
 have HU : Hid (∀ X,Below w.heap.size w X->Calls Tryz.prog 155 #[.agg #[.slice a1 E.C.length q1,.slice a2 E.L.length q2],.slice av lv cv,.int .i64 node,.int .i64 count,.string v] X fun e w'=>SetF (updF E.C c E.L node count v) X e w'):=fun X hX =>
  (Update_u _ _ _ _ _ _ _ _ _ X ((Rd.own o1 rfl).below hX) ((RdS.own o2 rfl).below hX) (hrd.below hX)).mono fun e w' hh=>hh.upd
 clear hE hT hSet o1 o2 hu h hrd c5
 obtain ⟨W,hW,HB,HR,HM⟩ : ∃ W,((w.alloc (.cells #[.bool del,.int .i64 node,.int .i64 count,.string k,.slice av lv cv,.string v] 111)).alloc (.cells #[.slice none 0 0,.slice none 0 0] 117)) = W/\Hid (Below w.heap.size w W)/\Hid (W.heap[w.heap.size + 1]? = some (.cells nilSet 117 (0,0))) /\
   Hid (W.heap[w.heap.size]? = some (.cells #[.bool del,.int .i64 node,.int .i64 count,.string k,.slice av lv cv,.string v] 111 (0,0))) :=
  ⟨_,rfl,((Below.refl _ _).alloc (Nat.le_refl _) _).alloc (by simp) _,heap_alloc2_new w _ _,(Below.heap_alloc _ _ _ (by simp)).trans (heap_alloc_new w _)⟩
 have hcell : ∀ X,Below W.heap.size W X->∀ o,X.cell? ⟨w.heap.size,o,none⟩ = #[Value.bool del,.int .i64 node,.int .i64 count,.string k,.slice av lv cv,.string v][o]?:=fun X hX o=>by rw [cell_of_row _ _ _ _ _ _ (heap_later hX HM.out)]
 have x3 : W.cell? ⟨w.heap.size,3,none⟩ = some (.string k):=(hcell W (Below.refl _ _) 3).trans rfl
 have HC : Hid (∀ X,Below W.heap.size W X->X.cell? ⟨w.heap.size,0,none⟩ = some (.bool del)/\X.cell? ⟨w.heap.size,1,none⟩ = some (.int .i64 node)/\X.cell? ⟨w.heap.size,2,none⟩ = some (.int .i64 count)/\X.cell? ⟨w.heap.size,4,none⟩ = some (.slice av lv cv)/\X.cell? ⟨w.heap.size,5,none⟩ = some (.string v)):=fun X hX =>
  ⟨(hcell X hX 0).trans rfl,(hcell X hX 1).trans rfl,(hcell X hX 2).trans rfl,(hcell X hX 4).trans rfl,(hcell X hX 5).trans rfl⟩
 clear hcell
 have hw0 : Below W.heap.size W W:=Below.refl _ _
 have hWs : w.heap.size + 2<=W.heap.size:=by rw [<- hW];simp
 have hne1 : w.heap.size ≠ W.heap.size:=by omega
 have hne2 : W.heap.size ≠ w.heap.size:=by omega
 unfold mtV
 simp only
 go_enter Tryz.func91,Tryz.ntmps91
 go_upto_region 1 with (fail)
 clear hW
 go_cut [6] from 6 to 16 (fun v6 wx=>∃ g,v6 = .pointer (some ⟨g,0,none⟩)/\wx.heap[g]? = some (.cells #[.slice a1 E.C.length q1,.slice a2 E.L.length q2] 117 (0,0))/\Below W.heap.size W wx)
 case first =>
  go_region_held3 (fun w'=>w'.cell? ⟨w.heap.size,3,none⟩ = some (.string k))
   (first | exact x3 | go_keep)
   (first
    | ((go_at_call 55;refine (HG.out _ (by refine belowN HB.out ?_;repeat (first | assumption | exact Below.refl _ _ | refine Below.drew ?_ | refine belowA ?_))).mono ?_;rintro e w1 ⟨⟨b,rfl⟩,hb1⟩;have z3 : w1.cell? ⟨w.heap.size,3,none⟩ = some (.string k):=cell_later (belowN (a:=W) (by repeat (first | assumption | exact Below.refl _ _ | refine Below.drew ?_ | refine belowA ?_)) hb1) x3;(first | (have r1:=rowD hb1;have r2:=row_c0 r1;have r3:=row_c1 r1;have r4:=row_fz r1) | skip))))
  ·go_wp2_with fail
   go_meet
   exact ⟨w1.heap.size,rfl,heap_alloc_new w1 _,belowA (belowN (Below.drew hw0) hb1)⟩
  ·go_wp2_with fail
   go_meet
   exact ⟨W.heap.size,rfl,by rw [heap_setCell_self (heap_setCell_self r1 0 _) 1 _];rfl,((belowN (Below.drew (belowA hw0)) hb1).setCell (Nat.le_refl _) _).setCell (Nat.le_refl _) _⟩
 case rest =>
  obtain ⟨g,rfl,hg,hbx⟩:=hcut
  obtain ⟨y0,y1,y2,y4,y5⟩:=HC.out wc hbx
  have g0:=row_c0 hg
  have g1:=row_c1 hg
  have HX : Hid (Below w.heap.size w wc):=belowN HB.out hbx
  have HR1 : Hid (wc.heap[w.heap.size + 1]? = some (.cells nilSet 117 (0,0))):=heap_later hbx HR.out
  clear hbx hg HC HG hw0 x3 HB HR HM hWs hne1 hne2
  cases del
  ·have HO : Hid (outF E ⟨false,node,count,k,c,v⟩ = updF E.C c E.L node count v):=rfl
   clear HD
   go_wp2_with fail
   refine (HU.out wc HX.out).mono ?_
   rintro e w2 ⟨r1,r2,rfl,o1,o2,hb2,l1,l2⟩
   obtain ⟨b1,p1,rfl⟩:=own_shape o1
   obtain ⟨b2,p2,rfl⟩:=own_shape o2
   have HR2 : Hid (w2.heap[w.heap.size + 1]? = some (.cells nilSet 117 (0,0))):=heap_later hb2 HR1.out
   have HQ : Hid (∀ w3,w3 = w2.setRow (w.heap.size + 1) #[.slice b1 (updF E.C c E.L node count v).1.length p1,.slice b2 (updF E.C c E.L node count v).2.1.length p2]->SetF (outF E ⟨false,node,count,k,c,v⟩) w (.returned (.tuple #[.agg #[.slice b1 (updF E.C c E.L node count v).1.length p1,.slice b2 (updF E.C c E.L node count v).2.1.length p2],.int .i64 (updF E.C c E.L node count v).2.2])) w3):=by
    rintro w3 rfl
    rw [HO.out]
    exact ⟨_,_,rfl,own_setRow (own_base o1 HX.out.size) HR2.out (by decide),own_setRow (own_base o2 HX.out.size) HR2.out (by decide),below_setRow (belowN HX.out hb2) (by omega) _,l1,l2⟩
   obtain ⟨N1,hN1⟩ : ∃ q,(updF E.C c E.L node count v).1.length = q:=⟨_,rfl⟩
   obtain ⟨N2,hN2⟩ : ∃ q,(updF E.C c E.L node count v).2.1.length = q:=⟨_,rfl⟩
   obtain ⟨N3,hN3⟩ : ∃ q,(updF E.C c E.L node count v).2.2 = q:=⟨_,rfl⟩
   rw [hN1,hN2,hN3] at HQ
   rw [hN1,hN2,hN3]
   clear hN1 hN2 hN3 o1 o2 l1 l2 hb2 y0 y1 y2 y4 y5 g0 g1 HU
   go_wp2_with (first
    | (refine wpList_store_row rfl 117 _ _ rfl (w.heap.size + 1) #[.slice b1 N1 p1,.slice b2 N2 p2] rfl rfl 117 nilSet HR2.out info38 rfl (one_two _ _ _ _ _ _) ?_))
   exact bodyPost_ret (result_out _ _ (w.heap.size + 1) _ _ N3 rfl rfl (setRow_heap _ _ _ _ _ _ HR2.out)) rfl (HQ.out _ rfl)
  ·have HO : Hid (outF E ⟨true,node,count,k,c,v⟩ = disF E.C c E.L):=rfl
   clear HU
   go_wp2_with fail
   refine (HD.out wc HX.out).mono ?_
   rintro e w2 ⟨r1,r2,rfl,o1,o2,hb2,l1,l2⟩
   obtain ⟨b1,p1,rfl⟩:=own_shape o1
   obtain ⟨b2,p2,rfl⟩:=own_shape o2
   have HR2 : Hid (w2.heap[w.heap.size + 1]? = some (.cells nilSet 117 (0,0))):=heap_later hb2 HR1.out
   have HQ : Hid (∀ w3,w3 = w2.setRow (w.heap.size + 1) #[.slice b1 (disF E.C c E.L).1.length p1,.slice b2 (disF E.C c E.L).2.1.length p2]->SetF (outF E ⟨true,node,count,k,c,v⟩) w (.returned (.tuple #[.agg #[.slice b1 (disF E.C c E.L).1.length p1,.slice b2 (disF E.C c E.L).2.1.length p2],.int .i64 (disF E.C c E.L).2.2])) w3):=by
    rintro w3 rfl
    rw [HO.out]
    exact ⟨_,_,rfl,own_setRow (own_base o1 HX.out.size) HR2.out (by decide),own_setRow (own_base o2 HX.out.size) HR2.out (by decide),below_setRow (belowN HX.out hb2) (by omega) _,l1,l2⟩
   obtain ⟨N1,hN1⟩ : ∃ q,(disF E.C c E.L).1.length = q:=⟨_,rfl⟩
   obtain ⟨N2,hN2⟩ : ∃ q,(disF E.C c E.L).2.1.length = q:=⟨_,rfl⟩
   obtain ⟨N3,hN3⟩ : ∃ q,(disF E.C c E.L).2.2 = q:=⟨_,rfl⟩
   rw [hN1,hN2,hN3] at HQ
   rw [hN1,hN2,hN3]
   clear hN1 hN2 hN3 o1 o2 l1 l2 hb2 y0 y1 y2 y4 y5 g0 g1 HD
   go_wp2_with (first
    | (refine wpList_store_row rfl 117 _ _ rfl (w.heap.size + 1) #[.slice b1 N1 p1,.slice b2 N2 p2] rfl rfl 117 nilSet HR2.out info38 rfl (one_two _ _ _ _ _ _) ?_))
   exact bodyPost_ret (result_out _ _ (w.heap.size + 1) _ _ N3 rfl rfl (setRow_heap _ _ _ _ _ _ HR2.out)) rfl (HQ.out _ rfl)
end Go.Proofs.YtilkdeghknjjhaaGreatDoor
namespace Go.Proofs.YtilkdeghknjjhaaGreatDoor
open Go.RowKit M Go.Maps
variable {Y X : Nat->Prop} {w : World}
theorem isKey_any (k : ByteArray) (w : World) : Calls Tryz.prog 53 #[.string k] w fun e w'=>e = .returned (.bool (keyOK k))/\w' = w:=by
 by_cases h1 : 1<=(k.size : Int)
 ·by_cases h2 : (k.size : Int)<=40
  ·have HE : Hid (keyOK k = true):=by show _ = _;unfold keyOK;simp;omega
   go_enter Tryz.func53,Tryz.ntmps53
   go_wp2
   go_ret
   exact ⟨by rw [HE.out];rfl,rfl⟩
  ·have HE : Hid (keyOK k = false):=by show _ = _;unfold keyOK;simp;omega
   go_enter Tryz.func53,Tryz.ntmps53
   go_wp2
   go_ret
   exact ⟨by rw [HE.out];rfl,rfl⟩
 ·have HE : Hid (keyOK k = false):=by show _ = _;unfold keyOK;simp;omega
  go_enter Tryz.func53,Tryz.ntmps53
  go_wp2
  go_ret
  exact ⟨by rw [HE.out];rfl,rfl⟩
theorem within_any (n a b : Int) (w : World) : Calls Tryz.prog 144 #[.int .i64 n,.int .i64 a,.int .i64 b] w fun e w'=>e = .returned (.bool (decide (a<=n) && decide (n<=b)))/\w' = w:=by
 obtain ⟨q,hq⟩ : ∃ q,(decide (a<=n) && decide (n<=b)) = q:=⟨_,rfl⟩
 rw [hq]
 by_cases h1 : a<=n
 ·by_cases h2 : n<=b
  ·have HE : Hid (q = true):=by show _ = _;rw [<- hq];simp [h1,h2]
   clear hq
   go_enter Tryz.func144,Tryz.ntmps144
   go_wp2
   go_ret
   exact ⟨by rw [HE.out];rfl,rfl⟩
  ·have HE : Hid (q = false):=by show _ = _;rw [<- hq];simp [h2]
   clear hq
   go_enter Tryz.func144,Tryz.ntmps144
   go_wp2
   go_ret
   exact ⟨by rw [HE.out];rfl,rfl⟩
 ·have HE : Hid (q = false):=by show _ = _;rw [<- hq];simp [h1]
  clear hq
  go_enter Tryz.func144,Tryz.ntmps144
  go_wp2
  go_ret
  exact ⟨by rw [HE.out];rfl,rfl⟩
def optOK (n e r : Int) : Bool:=(decide (0<=n) && decide (n<=15)) && (decide (0<=e) && decide (e<=100)) && (decide (400<=r) && decide (r<=100000))
theorem areOptions_any (n e r : Int) (w : World) : Calls Tryz.prog 84 #[.agg #[.int .i64 n,.int .i64 e,.int .i64 r]] w fun en w'=>en = .returned (.bool (optOK n e r))/\Below w.heap.size w w':=by
 obtain ⟨W,hW,hb,c0,c1,c2⟩ : ∃ W,w.alloc (.cells #[.int .i64 n,.int .i64 e,.int .i64 r] 23) = W/\Below w.heap.size w W/\W.cell? ⟨w.heap.size,0,none⟩ = some (.int .i64 n)/\W.cell? ⟨w.heap.size,1,none⟩ = some (.int .i64 e)/\W.cell? ⟨w.heap.size,2,none⟩ = some (.int .i64 r) :=
  ⟨_,rfl,(Below.refl _ _).alloc (Nat.le_refl _) _,by simp [go_sem],by simp [go_sem],by simp [go_sem]⟩
 have H0:=within_any n 0 15 W
 have H1:=within_any e 0 100 W
 have H2:=within_any r 400 100000 W
 have HO : Hid (optOK n e r = ((decide (0<=n) && decide (n<=15)) && (decide (0<=e) && decide (e<=100)) && (decide (400<=r) && decide (r<=100000)))):=rfl
 obtain ⟨a,ha⟩ : ∃ a,(decide (0<=n) && decide (n<=15)) = a:=⟨_,rfl⟩
 obtain ⟨b,hbb⟩ : ∃ a,(decide (0<=e) && decide (e<=100)) = a:=⟨_,rfl⟩
 obtain ⟨c,hc⟩ : ∃ a,(decide (400<=r) && decide (r<=100000)) = a:=⟨_,rfl⟩
 rw [ha] at H0 HO
 rw [hbb] at H1 HO
 rw [hc] at H2 HO
 clear ha hbb hc
 go_enter Tryz.func84,Tryz.ntmps84
 go_wp2_with fail
 clear hW
 refine H0.mono ?_
 rintro en w1 ⟨rfl,rfl⟩
 cases a
 ·have HE : Hid (optOK n e r = false):=by show _ = _;rw [HO.out];simp
  clear HO
  go_wp2
  go_ret
  exact ⟨by rw [HE.out];rfl,hb⟩
 ·go_wp2_with fail
  refine H1.mono ?_
  rintro en w2 ⟨rfl,rfl⟩
  cases b
  ·have HE : Hid (optOK n e r = false):=by show _ = _;rw [HO.out];simp
   clear HO
   go_wp2
   go_ret
   exact ⟨by rw [HE.out];rfl,hb⟩
  ·go_wp2_with fail
   refine H2.mono ?_
   rintro en w3 ⟨rfl,rfl⟩
   have HE : Hid (optOK n e r = c):=by show _ = _;rw [HO.out];simp
   clear HO
   go_wp2
   go_ret
   exact ⟨by rw [HE.out];rfl,hb⟩
theorem closed_no (Y : Nat->Prop) (s j : Nat) (dv mv : Value) (n : Nat) (S : St) (w : World) (h : StIn Y w s dv (.pointer (some ⟨j,0,none⟩)) mv n S) :
  Calls Tryz.prog 39 #[.pointer (some ⟨s,0,none⟩)] w fun e w'=>e = .returned (.bool false)/\w' = w:=by
 have c4 : w.cell? ⟨s,4,none⟩ = some (.pointer (some ⟨j,0,none⟩)):=(h.cell 4).trans rfl
 clear h
 go_enter Tryz.func39,Tryz.ntmps39
 go_wp2
 go_ret
 exact ⟨rfl,rfl⟩
theorem closed_yes (Y : Nat->Prop) (s : Nat) (dv mv : Value) (n : Nat) (S : St) (w : World) (h : StIn Y w s dv (.pointer none) mv n S) :
  Calls Tryz.prog 39 #[.pointer (some ⟨s,0,none⟩)] w fun e w'=>e = .returned (.bool true)/\w' = w:=by
 have c4 : w.cell? ⟨s,4,none⟩ = some (.pointer none):=(h.cell 4).trans rfl
 clear h
 go_enter Tryz.func39,Tryz.ntmps39
 go_wp2
 go_ret
 exact ⟨rfl,rfl⟩
theorem Tr.trans' {a b c : World} (h : Tr Y a b) (k : Tr X b c) (hx : ∀ i,i < a.heap.size->X i->Y i) : Tr Y a c :=
 ⟨k.os.trans h.os,k.tape.trans h.tape,k.output.trans h.output,Nat.le_trans h.size k.size,fun i hi hz=>(k.block i (Nat.lt_of_lt_of_le hi h.size) (fun hh=>hz (hx i hi hh))).trans (h.block i hi hz)⟩
noncomputable def redoF (S : St) (m : Mt) : Bool × St:=open Classical in
 if m.count = S.cnt + 1/\keyOK m.k = true/\(outF (S.M m.k) m).2.2 = 0 then (true,{ S with M:=keepM S.M m.k ⟨(outF (S.M m.k) m).1,(outF (S.M m.k) m).2.1⟩,cnt:=m.count }) else (false,S)
theorem StIn.zone {s : Nat} {dv jv mv : Value} {n : Nat} {S : St} (h : StIn Y w s dv jv mv n S) (h1 : ∀ k,Y k->X k) (h2 : ∀ k,X k->k < w.heap.size) : StIn X w s dv jv mv n S :=
 ⟨h2,h1 _ h.ys,fun k hk=>h1 _ (h.ym k hk),h.hs,h.tab.mono h1 (Nat.le_refl _)⟩
theorem SetF.set {q : List (Int × Int) × List Sb × Int} {e : Ending} {w' : World} (Y : Nat->Prop) (h : SetF q w e w') : ∃ a1 l1 c1 a2 l2 c2,e = .returned (.tuple #[.agg #[.slice a1 l1 c1,.slice a2 l2 c2],.int .i64 q.2.2])/\SetIn (Yn Y w.heap.size w'.heap.size) w' (.agg #[.slice a1 l1 c1,.slice a2 l2 c2]) ⟨q.1,q.2.1⟩/\Below w.heap.size w w'/\q.2.1.length<=6:=by
 obtain ⟨r1,r2,rfl,o1,o2,hb,_,l2⟩:=h
 obtain ⟨a1,c1,rfl⟩:=own_shape o1
 obtain ⟨a2,c2,rfl⟩:=own_shape o2
 exact ⟨_,_,_,_,_,_,rfl,⟨_,_,rfl,own_base o1 (Nat.zero_le _),own_base o2 (Nat.zero_le _),fun k hk=>.inr (o1.lt k hk),fun k hk=>.inr (o2.lt k hk)⟩,hb,l2⟩
theorem redo_any (Y : Nat->Prop) (s : Nat) (dv jv mv : Value) (n : Nat) (S : St) (m : Mt) (vc : Value) (w : World) (h : StIn Y w s dv jv mv n S) (hrd : Rd w vc m.c) (hk : m.k.size<=1000000) (hn : n < 1000000000000) (hc0 : 0<=S.cnt) (hc1 : S.cnt<=4611686018427387904) :
  Calls Tryz.prog 86 #[.pointer (some ⟨s,0,none⟩),mtV m vc] w fun e w'=>e = .returned (.bool (redoF S m).1)/\(∃ mv',StIn (Yn Y w.heap.size w'.heap.size) w' s dv jv mv' (n + 1) (redoF S m).2)/\Tr Y w w':=by
 obtain ⟨del,node,count,k,c,v⟩:=m
 simp only at hrd hk
 obtain ⟨av,lv,cv,rfl⟩ : ∃ a l cap,vc = .slice a l cap:=by obtain ⟨a,cap,h,_⟩:=hrd;exact ⟨_,_,_,h⟩
 obtain ⟨W,hW,HB,HM⟩ : ∃ W,(w.alloc (.cells #[.bool del,.int .i64 node,.int .i64 count,.string k,.slice av lv cv,.string v] 111)) = W/\Hid (Below w.heap.size w W) /\
   Hid (W.heap[w.heap.size]? = some (.cells #[.bool del,.int .i64 node,.int .i64 count,.string k,.slice av lv cv,.string v] 111 (0,0))):=⟨_,rfl,(Below.refl _ _).alloc (Nat.le_refl _) _,heap_alloc_new w _⟩
 have HS : Hid (StIn Y W s dv jv mv n S):=h.below HB.out
 have c6 : W.cell? ⟨s,6,none⟩ = some (.int .i64 S.cnt):=(HS.out.cell 6).trans rfl
 have HC : Hid (∀ X,Below W.heap.size W X->X.cell? ⟨w.heap.size,0,none⟩ = some (.bool del)/\X.cell? ⟨w.heap.size,1,none⟩ = some (.int .i64 node)/\X.cell? ⟨w.heap.size,2,none⟩ = some (.int .i64 count)/\X.cell? ⟨w.heap.size,3,none⟩ = some (.string k)/\X.cell? ⟨w.heap.size,4,none⟩ = some (.slice av lv cv)/\X.cell? ⟨w.heap.size,5,none⟩ = some (.string v)):=fun X hX=>by
  have hcell : ∀ o,X.cell? ⟨w.heap.size,o,none⟩ = #[Value.bool del,.int .i64 node,.int .i64 count,.string k,.slice av lv cv,.string v][o]?:=fun o=>by rw [cell_of_row _ _ _ _ _ _ (heap_later hX HM.out)]
  exact ⟨(hcell 0).trans rfl,(hcell 1).trans rfl,(hcell 2).trans rfl,(hcell 3).trans rfl,(hcell 4).trans rfl,(hcell 5).trans rfl⟩
 have HK : Hid (∀ X,Calls Tryz.prog 53 #[.string k] X fun e w'=>e = .returned (.bool (keyOK k))/\w' = X):=fun X=>isKey_any k X
 have HO : Hid (∀ X,Below W.heap.size W X->Calls Tryz.prog 91 #[.pointer (some ⟨s,0,none⟩),.agg #[.bool del,.int .i64 node,.int .i64 count,.string k,.slice av lv cv,.string v]] X fun e w'=>SetF (outF (S.M k) ⟨del,node,count,k,c,v⟩) X e w') :=
  fun X hX=>outcome_any Y s dv jv mv n S ⟨del,node,count,k,c,v⟩ (.slice av lv cv) X (HS.out.below hX) ((hrd.below HB.out).below hX) (by show k.size<=maxLen;unfold maxLen;omega)
 obtain ⟨q,hq⟩ : ∃ q,outF (S.M k) ⟨del,node,count,k,c,v⟩ = q:=⟨_,rfl⟩
 have HR : Hid (redoF S ⟨del,node,count,k,c,v⟩ = if count = S.cnt + 1/\keyOK k = true/\q.2.2 = 0 then (true,{ S with M:=keepM S.M k ⟨q.1,q.2.1⟩,cnt:=count }) else (false,S)):=by
  show _ = _
  unfold redoF
  simp only [hq]
 rw [hq] at HO
 obtain ⟨R,hR⟩ : ∃ R,redoF S ⟨del,node,count,k,c,v⟩ = R:=⟨_,rfl⟩
 rw [hR] at HR ⊢
 have hcw : IntKind.i64.wrap (S.cnt + 1) = S.cnt + 1:=wrap_in _ (by omega) (by omega)
 have hw0 : Below W.heap.size W W:=Below.refl _ _
 obtain ⟨x0,x1,x2,x3,x4,x5⟩:=HC.out W hw0
 have HNo : Hid (∀ w',R = (false,S)->Below W.heap.size W w'->(∃ mv',StIn (Yn Y w.heap.size w'.heap.size) w' s dv jv mv' (n + 1) R.2)/\Tr Y w w'):=by
  intro w' hr hb
  refine ⟨⟨mv,?_⟩,below_tr (belowN HB.out hb) Y⟩
  rw [hr]
  have h2:=(HS.out.below hb).wide w.heap.size
  exact ⟨h2.lt,h2.ys,h2.ym,h2.hs,h2.tab.mono (fun _ hk=>hk) (Nat.le_succ _)⟩
 clear hq hR hrd h
 unfold mtV
 simp only
 by_cases g1 : count = S.cnt + 1
 ·have g1b : (count != S.cnt + 1) = false:=by simp [g1]
  cases g2 : keyOK k
  ·have HF : Hid (R = (false,S)):=by show _ = _;rw [HR.out,if_neg (by rw [g2];simp)]
   rw [g2] at HK
   clear HR HO g1 g2
   go_enter Tryz.func86,Tryz.ntmps86
   go_upto_region 1 with (fail)
   clear hW
   go_quiet ((go_at_call 53;refine Calls.quiet_of_same (HK.out _)))
   go_wp2
   go_ret
   obtain ⟨p1,p2⟩:=HNo.out _ HF.out (below_drewN hw0 _)
   exact ⟨by rw [HF.out];rfl,p1,p2⟩
  ·rw [g2] at HK
   by_cases g3 : q.2.2 = 0
   ·have HT : Hid (R = (true,{ S with M:=keepM S.M k ⟨q.1,q.2.1⟩,cnt:=count })):=by show _ = _;rw [HR.out,if_pos ⟨g1,g2,g3⟩]
    have HKp : Hid (∀ X v,Below W.heap.size W X->SetIn (Yn Y w.heap.size X.heap.size) X v ⟨q.1,q.2.1⟩->q.2.1.length<=6->Calls Tryz.prog 93 #[.pointer (some ⟨s,0,none⟩),.string k,v,.int .i64 count] X fun e w'=>e = .returned (.tuple #[])/\(∃ mv',StIn (Yn Y w.heap.size w'.heap.size) w' s dv jv mv' (n + 1) { S with M:=keepM S.M k ⟨q.1,q.2.1⟩,cnt:=count })/\Tr Y w w'):=by
     intro X v hX hv hl
     refine (keep_any (Yn Y w.heap.size X.heap.size) s dv jv mv n S k v ⟨q.1,q.2.1⟩ count X ((HS.out.below hX).wide w.heap.size) (by unfold maxLen;omega) hn hv hl).mono ?_
     rintro e w' ⟨he,⟨mv',h1⟩,h2⟩
     have hwX : w.heap.size<=X.heap.size:=(belowN HB.out hX).size
     refine ⟨he,⟨mv',h1.zone (fun i hi=>?_) (fun i hi=>?_)⟩,(below_tr (belowN HB.out hX) Y).trans' h2 fun i hi hy=>?_⟩
     ·rcases hi with (hi | hi) | hi
      ·exact .inl hi
      ·exact .inr ⟨hi.1,Nat.lt_of_lt_of_le hi.2 h2.size⟩
      ·exact .inr ⟨by omega,hi.2⟩
     ·rcases hi with hi | hi
      ·exact Nat.lt_of_lt_of_le (HS.out.lt i hi) (Nat.le_trans hX.size h2.size)
      ·exact hi.2
     ·rcases hy with hy | hy
      ·exact hy
      ·omega
    clear HR g1 g2
    go_enter Tryz.func86,Tryz.ntmps86
    go_upto_region 1 with (fail)
    clear hW
    go_quiet ((go_at_call 53;refine Calls.quiet_of_same (HK.out _)))
    go_wp2_with fail
    refine (HO.out _ (below_drewN hw0 _)).mono ?_
    intro e w2 hset
    obtain ⟨a1,l1,p1,a2,l2,p2,rfl,hv2,hb2,hl2⟩:=hset.set Y
    have hb3 : Below W.heap.size W w2:=belowN (below_drewN hw0 _) hb2
    have hv3 : SetIn (Yn Y w.heap.size w2.heap.size) w2 (.agg #[.slice a1 l1 p1,.slice a2 l2 p2]) ⟨q.1,q.2.1⟩:=hv2.mono fun i hi=>hi.elim .inl fun hh=>.inr ⟨Nat.le_trans HB.out.size hh.1,hh.2⟩
    obtain ⟨Z2,hZ2,hbZ,HVZ,hcz⟩ : ∃ Z2,w2.alloc (.cells #[.slice a1 l1 p1,.slice a2 l2 p2] 117) = Z2/\Hid (Below W.heap.size W Z2)/\Hid (SetIn (Yn Y w.heap.size Z2.heap.size) Z2 (.agg #[.slice a1 l1 p1,.slice a2 l2 p2]) ⟨q.1,q.2.1⟩)/\Z2.heap[w2.heap.size]? = some (.cells #[.slice a1 l1 p1,.slice a2 l2 p2] 117 (0,0)) :=
     ⟨_,rfl,belowA hb3,(hv3.below (belowA (Below.refl _ _))).mono fun i hi=>hi.elim .inl fun hh=>.inr ⟨hh.1,by have:=hh.2;simp;omega⟩,heap_alloc_new w2 _⟩
    have z0:=row_c0 hcz
    have z1:=row_c1 hcz
    obtain ⟨y0,y1,y2,y3,y4,y5⟩:=HC.out Z2 hbZ.out
    have HKq:=HKp.out Z2 _ hbZ.out HVZ.out hl2
    rw [g3]
    clear hv2 hv3 hb2 hset hcz HO HC HKp HNo hb3
    go_upto_region 4 with (fail)
    clear hZ2
    go_wp2_with fail
    refine HKq.mono ?_
    rintro e w' ⟨rfl,h5,h6⟩
    go_wp2
    go_ret
    exact ⟨by rw [HT.out];rfl,by rw [HT.out];exact h5,h6⟩
   ·have HF : Hid (R = (false,S)):=by show _ = _;rw [HR.out,if_neg (fun h=>g3 h.2.2)]
    have g3b : (q.2.2 != 0) = true:=by simp [g3]
    clear HR g1 g2 g3
    go_enter Tryz.func86,Tryz.ntmps86
    go_upto_region 1 with (fail)
    clear hW
    go_quiet ((go_at_call 53;refine Calls.quiet_of_same (HK.out _)))
    go_wp2_with fail
    refine (HO.out _ (below_drewN hw0 _)).mono ?_
    intro e w2 hset
    obtain ⟨a1,l1,p1,a2,l2,p2,rfl,hv2,hb2,hl2⟩:=hset.set Y
    have hb3 : Below W.heap.size W w2:=belowN (below_drewN hw0 _) hb2
    clear hv2 hb2 hset hl2
    go_wp2
    go_ret
    obtain ⟨h5,h6⟩:=HNo.out _ HF.out (belowA (o:=.cells #[.slice a1 l1 p1,.slice a2 l2 p2] 117) hb3)
    exact ⟨by rw [HF.out];rfl,h5,h6⟩
 ·have g1b : (count != S.cnt + 1) = true:=by simp [g1]
  have HF : Hid (R = (false,S)):=by show _ = _;rw [HR.out,if_neg (fun h=>g1 h.1)]
  clear HR HO HK g1
  go_enter Tryz.func86,Tryz.ntmps86
  go_upto_region 1 with (fail)
  clear hW
  go_quiet (fail)
  go_wp2
  go_ret
  obtain ⟨p1,p2⟩:=HNo.out _ HF.out (below_drewN hw0 _)
  exact ⟨by rw [HF.out];rfl,p1,p2⟩
end Go.Proofs.YtilkdeghknjjhaaGreatDoor
