/- A part of the proof. -/
import Derived.Test.YtilkdeghknjjhaaGreatDoorPart38
set_option maxRecDepth 20000
set_option maxHeartbeats 3200000
set_option linter.unusedVariables false
namespace Go.Proofs.YtilkdeghknjjhaaGreatDoor
open Go.RowKit M Go.Maps
noncomputable def anyCov (C : List (Int × Int)) (L : List Sb) : Bool:=L.any fun x=>covB C x.n x.c
theorem tkPred_any (mb : Nat) (x : Sb) (a : Option Addr) (l c : Nat) (C : List (Int × Int)) (w : World) (h4 : w.cell? ⟨mb,4,none⟩ = some (.slice a l c)) (hb : mb < w.heap.size) (hrd : Rd w (.slice a l c) C) :
  Calls Tryz.prog 101 #[x.val,.pointer (some ⟨mb,0,none⟩)] w fun e w'=>e = .returned (.bool (covB C x.n x.c))/\Below w.heap.size w w':=by
 obtain ⟨W,hW,HB,HR⟩ : ∃ W,w.alloc (.cells #[.int .i64 x.n,.int .i64 x.c,.string x.v] 122) = W/\Hid (Below w.heap.size w W)/\Hid (W.heap[w.heap.size]? = some (.cells #[.int .i64 x.n,.int .i64 x.c,.string x.v] 122 (0,0))) :=
  ⟨_,rfl,belowA (Below.refl _ _),heap_alloc_new w _⟩
 have f4 : W.cell? ⟨mb,4,none⟩ = some (.slice a l c):=cell_later HB.out h4
 have g0 : W.cell? ⟨w.heap.size,0,none⟩ = some (.int .i64 x.n):=by rw [cell_of_row _ _ _ _ _ _ HR.out];rfl
 have g1 : W.cell? ⟨w.heap.size,1,none⟩ = some (.int .i64 x.c):=by rw [cell_of_row _ _ _ _ _ _ HR.out];rfl
 have HC:=covers_f _ C x.n x.c W (hrd.below HB.out)
 unfold Sb.val
 clear h4 hrd
 go_enter Tryz.func101,Tryz.ntmps101
 go_upto_region 1 with (fail)
 clear hW
 go_wp2_with fail
 refine HC.mono ?_
 rintro e w' ⟨rfl,hb'⟩
 go_wp2
 go_ret
 exact ⟨rfl,belowN HB.out hb'⟩
theorem tkIdx_any (mb : Nat) (L : List Sb) (v : Value) (a : Option Addr) (l c : Nat) (C : List (Int × Int)) (w : World) (h4 : w.cell? ⟨mb,4,none⟩ = some (.slice a l c)) (hb : mb < w.heap.size) (hrd : Rd w (.slice a l c) C) (hL : RdS w v L) :
  Calls Tryz.prog 165 #[v,.func (.func 101) #[] #[.pointer (some ⟨mb,0,none⟩)]] w fun e w'=>∃ r : Int,e = .returned (.int .i64 r)/\decide (0<=r) = anyCov C L/\Below w.heap.size w w':=by
 obtain ⟨p,q,rfl,hq,hq2,hcell⟩:=hL
 have HP : Hid (∀ X (x : Sb),Below w.heap.size w X->Calls Tryz.prog 101 #[.agg #[.int .i64 x.n,.int .i64 x.c,.string x.v],.pointer (some ⟨mb,0,none⟩)] X fun e w'=>e = .returned (.bool (covB C x.n x.c))/\Below X.heap.size X w'):=fun X x hX =>
  tkPred_any mb x a l c C X (cell_later hX h4) (Nat.lt_of_lt_of_le hb hX.size) (hrd.below hX)
 have hlb : L.length<=9223372036854775807:=by omega
 have HL : Hid (∀ X k,Below w.heap.size w X->k < L.length->∃ b off,p = some ⟨b,off,none⟩/\X.cell? ⟨b,off + k * 3,none⟩ = some (.int .i64 (sb L k).n)/\X.cell? ⟨b,off + k * 3 + 1,none⟩ = some (.int .i64 (sb L k).c)/\X.cell? ⟨b,off + k * 3 + 2,none⟩ = some (.string (sb L k).v)):=fun X k hX hk=>by
  obtain ⟨b,off,rfl,hc⟩:=hcell (by omega)
  exact ⟨b,off,rfl,cell_later hX (hc k hk).1,cell_later hX (hc k hk).2.1,cell_later hX (hc k hk).2.2⟩
 clear h4 hrd hcell hb
 go_enter Tryz.func165,Tryz.ntmps165
 go_wp2
 go_loopg [5,8] L.length (fun gg _ s8 wr=>∃ k : Nat,k<=L.length/\gg = L.length - k/\s8 = .int .i64 k/\Hid (anyCov C L = anyCov C (L.drop k))/\Hid (Below w.heap.size w wr))
 case atStart=>exact ⟨0,Nat.zero_le _,by omega,rfl,by show anyCov C L = _;rw [List.drop_zero],Below.refl _ w⟩
 case round =>
  obtain ⟨k,hk,rfl,rfl,HA,HB⟩:=hrel
  by_cases hlt : k < L.length
  ·have hlt2 : (k : Int) < (L.length : Int):=by omega
   obtain ⟨b,off,rfl,c0,c1,c2⟩:=HL.out wr k HB.out hlt
   have hcall:=HP.out wr (sb L k) HB.out
   have HD : Hid (anyCov C (L.drop k) = (covB C (sb L k).n (sb L k).c || anyCov C (L.drop (k + 1)))):=by
    show _ = _
    rw [List.drop_eq_getElem_cons hlt]
    unfold anyCov sb
    rw [List.any_cons,List.getD_eq_getElem?_getD,List.getElem?_eq_getElem hlt]
    rfl
   obtain ⟨x,hx⟩ : ∃ x,sb L k = x:=⟨_,rfl⟩
   rw [hx] at c0 c1 c2 hcall HD
   obtain ⟨r,hr⟩ : ∃ r,covB C x.n x.c = r:=⟨_,rfl⟩
   rw [hr] at hcall HD
   clear hx hr HL HP
   cases r
   ·go_wp2_with (go_at_call 101;refine hcall.mono ?_;rintro e w' ⟨rfl,hb'⟩)
    go_roundg (L.length - (k + 1))
    case measure=>omega
    case rel=>exact ⟨k + 1,by omega,by omega,by go_num,by show anyCov C L = _;rw [HA.out,HD.out];rfl,belowN HB.out hb'⟩
   ·go_wp2_with fail
    refine hcall.mono ?_
    rintro e w' ⟨rfl,hb'⟩
    go_wp2
    go_ret
    exact ⟨k,rfl,by rw [HA.out,HD.out];simp,belowN HB.out hb'⟩
  ·have hlt2 : ¬ (k : Int) < (L.length : Int):=by omega
   have e : k = L.length:=by omega
   subst e
   go_wp2
   go_ret
   refine ⟨-1,rfl,?_,HB.out⟩
   rw [HA.out,List.drop_length]
   rfl
theorem tkHas_any (mb : Nat) (L : List Sb) (v : Value) (a : Option Addr) (l c : Nat) (C : List (Int × Int)) (w : World) (h4 : w.cell? ⟨mb,4,none⟩ = some (.slice a l c)) (hb : mb < w.heap.size) (hrd : Rd w (.slice a l c) C) (hL : RdS w v L) :
  Calls Tryz.prog 100 #[v,.func (.func 101) #[] #[.pointer (some ⟨mb,0,none⟩)]] w fun e w'=>e = .returned (.bool (anyCov C L))/\Below w.heap.size w w':=by
 have HI:=tkIdx_any mb L v a l c C w h4 hb hrd hL
 clear h4 hrd hb
 obtain ⟨p,q,rfl,_⟩:=hL
 go_enter Tryz.func100,Tryz.ntmps100
 go_wp2_with fail
 refine HI.mono ?_
 rintro e w' ⟨r,rfl,hr,hb⟩
 go_wp2
 go_ret
 exact ⟨by rw [<- hr];rfl,hb⟩
theorem takes_any (Y : Nat->Prop) (s : Nat) (dv jv mv : Value) (n : Nat) (S : St) (m : Mt) (vc : Value) (w : World) (h : StIn Y w s dv jv mv n S) (hrd : Rd w vc m.c) (hk : m.k.size<=maxLen) :
  Calls Tryz.prog 57 #[.pointer (some ⟨s,0,none⟩),mtV m vc] w fun e w'=>e = .returned (.bool (anyCov m.c (S.M m.k).L))/\Below w.heap.size w w':=by
 obtain ⟨del,node,count,k,c,v⟩:=m
 simp only at hrd hk ⊢
 obtain ⟨av,lv,cv,rfl⟩ : ∃ a l cap,vc = .slice a l cap:=by obtain ⟨a,cap,h,_⟩:=hrd;exact ⟨_,_,_,h⟩
 obtain ⟨W,hW,HB,HM⟩ : ∃ W,(w.alloc (.cells #[.bool del,.int .i64 node,.int .i64 count,.string k,.slice av lv cv,.string v] 111)) = W/\Hid (Below w.heap.size w W) /\
   Hid (W.heap[w.heap.size]? = some (.cells #[.bool del,.int .i64 node,.int .i64 count,.string k,.slice av lv cv,.string v] 111 (0,0))):=⟨_,rfl,(Below.refl _ _).alloc (Nat.le_refl _) _,heap_alloc_new w _⟩
 have HW1 : Hid (w.heap.size < W.heap.size):=by show _ < _;rw [<- hW];simp
 obtain ⟨E,hE⟩ : ∃ E,S.M k = E:=⟨_,rfl⟩
 obtain ⟨T,hT,hSet,_⟩:=h.tab.get k
 rw [hE] at hSet ⊢
 obtain ⟨uc,ul,hu,o1,o2,_,_⟩:=hSet.ex
 obtain ⟨a3,q3,rfl⟩:=own_shape o1
 obtain ⟨a4,q4,rfl⟩:=own_shape o2
 have c5 : w.cell? ⟨s,5,none⟩ = some mv:=(h.cell 5).trans rfl
 have HG : Hid (∀ X,Below W.heap.size W X->Calls Tryz.prog 55 #[.pointer (some ⟨s,5,none⟩),.string k] X fun e w'=>(∃ b,e = .returned (.tuple #[.agg #[.slice a3 E.C.length q3,.slice a4 E.L.length q4],.bool b]))/\Below X.heap.size X w'):=fun X hX=>by
  have hb:=belowN HB.out hX
  have:=tGet_any s 5 mv n T k X (cell_later hb c5) (hT.below hb) hk
  rw [hu] at this
  exact this.mono fun e w' ⟨he,hb⟩=>⟨⟨_,he⟩,hb⟩
 have hB0 : Below W.heap.size W W:=Below.refl _ _
 have HCx : Hid (∀ X,Below W.heap.size W X->X.cell? ⟨w.heap.size,3,none⟩ = some (.string k)/\X.cell? ⟨w.heap.size,4,none⟩ = some (.slice av lv cv)):=fun X hX=>by
  have hcell : ∀ o,X.cell? ⟨w.heap.size,o,none⟩ = #[Value.bool del,.int .i64 node,.int .i64 count,.string k,.slice av lv cv,.string v][o]?:=fun o=>by rw [cell_of_row _ _ _ _ _ _ (heap_later hX HM.out)]
  exact ⟨(hcell 3).trans rfl,(hcell 4).trans rfl⟩
 have HH : Hid (∀ X,Below W.heap.size W X->Calls Tryz.prog 100 #[.slice a4 E.L.length q4,.func (.func 101) #[] #[.pointer (some ⟨w.heap.size,0,none⟩)]] X fun e w'=>e = .returned (.bool (anyCov c E.L))/\Below X.heap.size X w'):=fun X hX =>
  tkHas_any w.heap.size E.L _ av lv cv c X (HCx.out X hX).2 (Nat.lt_of_lt_of_le HW1.out hX.size) ((hrd.below HB.out).below hX) ((RdS.own o2 rfl).below (belowN HB.out hX))
 obtain ⟨x3,x4⟩:=HCx.out W hB0
 have hmf : ∀ (fn : Fn) (first cap : Array Value) (w : World),(Instr.makeFunc fn first cap).run Tryz.prog w = .ok (.func fn first cap) w:=fun _ _ _ _=>rfl
 clear hT hSet hu o1 o2 c5 h hrd hE
 unfold mtV
 simp only
 go_enter Tryz.func57,Tryz.ntmps57
 go_upto_region 1 with (fail)
 clear hW
 go_cut [5] from 5 to 15 (fun v8 wx=>∃ g,v8 = .pointer (some ⟨g,0,none⟩)/\wx.heap[g]? = some (.cells #[.slice a3 E.C.length q3,.slice a4 E.L.length q4] 117 (0,0))/\Below W.heap.size W wx)
 case first =>
  go_region_held3 (fun w'=>w'.cell? ⟨w.heap.size,3,none⟩ = some (.string k))
   (first | exact (HCx.out _ (by repeat (first | assumption | exact Below.refl _ _ | refine Below.drew ?_ | refine belowA ?_ | refine Below.setCell ?_ (by exact Nat.le_refl _) _))).1)
   (first
    | ((go_at_call 55;refine (HG.out _ (by repeat (first | assumption | exact Below.refl _ _ | refine Below.drew ?_ | refine belowA ?_))).mono ?_;rintro e w5 ⟨⟨b,rfl⟩,hb5⟩;have hb6:=belowN (a:=W) (by repeat (first | assumption | exact Below.refl _ _ | refine Below.drew ?_ | refine belowA ?_)) hb5;have zz:=(HCx.out w5 hb6).1;(first | (have r1:=rowD hb5;have r2:=row_c0 r1;have r3:=row_c1 r1;have r4:=row_fz r1) | skip))))
  ·go_wp2_with fail
   go_meet
   exact ⟨w5.heap.size,rfl,heap_alloc_new w5 _,belowA hb6⟩
  ·go_wp2_with fail
   go_meet
   exact ⟨W.heap.size,rfl,by rw [heap_setCell_self (heap_setCell_self r1 0 _) 1 _];rfl,(hb6.setCell (Nat.le_refl _) _).setCell (Nat.le_refl _) _⟩
 case rest =>
  obtain ⟨g,rfl,hg,hbx⟩:=hcut
  have g1:=row_c1 hg
  have HHq:=HH.out wc hbx
  have HBq : Hid (Below w.heap.size w wc):=belowN HB.out hbx
  clear hg hbx HH HCx HG HM x3 x4 hB0
  go_wp2_with (first | exact hmf)
  refine HHq.mono ?_
  rintro e w' ⟨rfl,hb⟩
  go_wp2
  go_ret
  exact ⟨rfl,belowN HBq.out hb⟩
end Go.Proofs.YtilkdeghknjjhaaGreatDoor
