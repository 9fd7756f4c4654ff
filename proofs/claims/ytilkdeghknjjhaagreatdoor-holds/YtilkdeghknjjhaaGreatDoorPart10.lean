/- A part of the proof. -/
import Derived.Test.YtilkdeghknjjhaaGreatDoorPart07
import Derived.Test.YtilkdeghknjjhaaGreatDoorPart08
import Derived.Deep.Cut
set_option maxRecDepth 20000
set_option maxHeartbeats 3200000
set_option linter.unusedVariables false
namespace Go.Proofs.YtilkdeghknjjhaaGreatDoor
open Go.RowKit M
theorem cd_neg (x y : Sb) : cd x y < 0 ↔ x.n < y.n\/(x.n = y.n/\x.c < y.c):=by
 unfold cd cmpD orI cmpI
 by_cases h1 : x.n < y.n
 ·simp [h1]
 ·by_cases h2 : y.n < x.n
  ·simp [h1,h2];omega
  ·have e : x.n = y.n:=by omega
   by_cases h3 : x.c < y.c
   ·simp [e,h3]
   ·by_cases h4 : y.c < x.c <;> simp [e,h3,h4]
set_option maxRecDepth 40000 in
theorem refset_any (vc v : Value) (c : List (Int × Int)) (l : List Sb) (w : World) (hrc : Rd w vc c) (hrd : RdS w v l) :
  Calls Tryz.prog 216 #[.agg #[vc,v]] w fun e w'=>BoolEnd (SetOK c l) w e w':=by
 obtain ⟨a,cap,rfl⟩:=hrd.shape
 obtain ⟨ac,capc,rfl⟩:=hrc.shape
 go_enter Tryz.func216,Tryz.ntmps216
 go_wp2_with fail
 obtain ⟨W,hW,hb,t1⟩ : ∃ W,(w.alloc (.cells #[.slice ac c.length capc,.slice a l.length cap] 117)) = W/\Below w.heap.size w W /\
   W.cell? ⟨w.heap.size,1,none⟩ = some (.slice a l.length cap) :=
  ⟨_,rfl,(Below.refl _ _).alloc (Nat.le_refl _) _,by simp [go_sem]⟩
 rw [hW]
 refine (refClock_any _ c W (hrc.below hb)).mono ?_
 rintro e w1 ⟨ok,F,rfl,hok,hF,hb2⟩
 have hb1 : Below w.heap.size w w1:=hb.trans (hb2.mono hb.size)
 have hs1:=hb1.size
 have e1:=cell_later hb2 t1
 have hrd1:=hrd.below hb1
 clear t1 hW hb hb2 hrc hrd
 go_upto_region 2 with (first
  | (refine wpList_store_row rfl 241 _ _ rfl w1.heap.size (arr F) rfl rfl 241 (arr zF) (alloc_lit w1 (arr zF)) (by rw [arr_size];exact info61) (by rw [arr_size,arr_size]) (one_arr _) ?_))
 obtain ⟨w2,hw2,hr2,hb2⟩ : ∃ w2,((w1.alloc (.cells (arr zF) 241)).setRow w1.heap.size (arr F)) = w2/\w2.heap[w1.heap.size]? = some (.cells (arr F) 241 (0,0))/\Below w1.heap.size w1 w2 :=
  ⟨_,rfl,setRow_heap _ _ _ _ _ _ (alloc_lit w1 (arr zF)),below_setRow ((Below.refl _ _).alloc (Nat.le_refl _) _) (Nat.le_refl _) _⟩
 rw [zlit] at hw2
 rw [hw2]
 clear hw2
 have g1:=cell_later hb2 e1
 have hrd2:=hrd1.below hb2
 have hb3:=hb1.trans (hb2.mono hs1)
 have hs3:=hb3.size
 have HR : Hid (w2.heap[w1.heap.size]? = some (.cells (arr F) 241 (0,0))):=hr2
 clear e1 hrd1 hr2 hb2 hb1
 cases ok
 ·have HN : Hid (¬ SetOK c l):=fun h=>Bool.noConfusion (hok.2 h.1)
  clear hok hF hrd2
  go_wp2
  go_ret
  exact BoolEnd.no HN.out hb3
 have HK : Hid (Clk c):=hok.1 rfl
 have HF : Hid (F = cN c):=hF rfl
 clear hok hF
 rcases Nat.lt_or_ge 6 l.length with h6 | h6
 ·have h6' : (6 : Int) < (l.length : Int):=by omega
  have HN : Hid (¬ SetOK c l):=fun h=>Nat.not_le_of_lt h6 h.2.1
  clear hrd2
  go_wp2
  go_ret
  exact BoolEnd.no HN.out hb3
 have h6' : ¬ (6 : Int) < (l.length : Int):=by omega
 have h7 : (l.length : Int)<=6:=by omega
 obtain ⟨a',cap',hv,_,_,hA⟩:=hrd2
 obtain ⟨rfl,-,rfl⟩ : a = a'/\l.length = l.length/\cap = cap':=by simpa using hv
 clear hv
 have HE : Hid (w2.cell? ⟨w.heap.size,1,none⟩ = some (.slice a l.length cap)):=g1
 have HA : Hid (0 < l.length->∃ b off,a = some ⟨b,off,none⟩/\∀ j,j < l.length->w2.cell? ⟨b,off + j * 3,none⟩ = some (.int .i64 (sb l j).n)/\w2.cell? ⟨b,off + j * 3 + 1,none⟩ = some (.int .i64 (sb l j).c)/\w2.cell? ⟨b,off + j * 3 + 2,none⟩ = some (.string (sb l j).v)):=hA
 clear hA
 go_wp2
 clear g1
 go_loopw [5] (fun q wr=>∃ k : Nat,k<=l.length/\q = .int .i64 k/\Hid (UpS c l k)/\Below w2.heap.size w2 wr)
  (fun q _=>l.length - (intOf q).toNat)
 case atStart=>exact ⟨0,Nat.zero_le _,rfl,fun k hk=>absurd hk (Nat.not_lt_zero k),Below.refl _ _⟩
 case round =>
  obtain ⟨k,hk,rfl,hu,hbr⟩:=hrel
  have hsz:=hbr.size
  have g1:=cell_later hbr HE.out
  by_cases hlt : k < l.length
  ·obtain ⟨b,off,rfl,hr⟩:=HA.out (by omega)
   have q1 : (k : Int) < (l.length : Int):=by omega
   have q0 : (0 : Int)<=(k : Int):=by omega
   have e0:=cell_later hbr (hr k hlt).1
   have e1:=cell_later hbr (hr k hlt).2.1
   have e2:=cell_later hbr (hr k hlt).2.2
   have HARR:=heap_later hbr HR.out
   obtain ⟨x,hx⟩ : ∃ x,sb l k = x:=⟨_,rfl⟩
   rw [hx] at e0 e1 e2
   have HX : Hid (sb l k = x):=hx
   have HRP : Hid (0 < k->wr.cell? ⟨b,off + (k - 1) * 3,none⟩ = some (.int .i64 (sb l (k - 1)).n)/\wr.cell? ⟨b,off + (k - 1) * 3 + 1,none⟩ = some (.int .i64 (sb l (k - 1)).c)/\wr.cell? ⟨b,off + (k - 1) * 3 + 2,none⟩ = some (.string (sb l (k - 1)).v)) :=
    fun _=>⟨cell_later hbr (hr (k - 1) (by omega)).1,cell_later hbr (hr (k - 1) (by omega)).2.1,cell_later hbr (hr (k - 1) (by omega)).2.2⟩
   clear hr hx
   go_wp2_with fail
   obtain ⟨W2,hW2,hbW,t0,t1,t2⟩ : ∃ W2,(wr.alloc (.cells #[.int .i64 x.n,.int .i64 x.c,.string x.v] 122)) = W2/\Below wr.heap.size wr W2 /\
     W2.cell? ⟨wr.heap.size,0,none⟩ = some (.int .i64 x.n)/\W2.cell? ⟨wr.heap.size,1,none⟩ = some (.int .i64 x.c)/\W2.cell? ⟨wr.heap.size,2,none⟩ = some (.string x.v) :=
    ⟨_,rfl,(Below.refl _ _).alloc (Nat.le_refl _) _,by simp [go_sem],by simp [go_sem],by simp [go_sem]⟩
   rw [hW2]
   have g1':=cell_later hbW g1
   have hb2 : Below w2.heap.size w2 W2:=hbr.trans (hbW.mono hsz)
   have hs2:=hb2.size
   refine (refdot_any x.n x.c W2).mono ?_
   rintro e wq ⟨rfl,rfl⟩
   clear hW2 e0 e1 e2 g1
   have HFIN : Hid (Below w.heap.size w wq):=hb3.trans (hb2.mono hs3)
   rcases (Decidable.em (dotB x.n x.c = true)).symm with hd | hd
   ·have HN : Hid (¬ SetOK c l):=fun h=>hd ((dotB_iff _ _).2 (HX.out ▸ (h.2.2 k hlt).1))
    have hd' : dotB x.n x.c = false:=by simpa using hd
    rw [hd']
    clear hd hd'
    go_wp2
    go_ret
    exact BoolEnd.no HN.out HFIN.out
   have HD : Hid (Dot x.n x.c):=(dotB_iff _ _).1 hd
   rw [hd]
   clear hd
   rcases (Decidable.em (x.v.size<=200)).symm with h200 | h200
   ·have HN : Hid (¬ SetOK c l):=fun h=>h200 (HX.out ▸ (h.2.2 k hlt).2.2.1)
    have gd : (200 : Int) < (x.v.size : Int):=by omega
    clear h200
    go_wp2
    go_ret
    exact BoolEnd.no HN.out HFIN.out
   have gv : ¬ (200 : Int) < (x.v.size : Int):=by omega
   obtain ⟨m,hm⟩ : ∃ m : Nat,x.n = m:=⟨x.n.toNat,by have:=HD.out.1;omega⟩
   have hm16 : m < 16:=by have:=HD.out.2.1;omega
   have c0 : wq.cell? ⟨w1.heap.size,m,none⟩ = some (.int .i64 (cS c (m : Int))):=by
    rw [cell_of_row _ _ _ _ _ _ (heap_later hbW HARR),arr_at _ _ hm16,HF.out];rfl
   rw [hm] at t0
   obtain ⟨Q,hQ⟩ : ∃ Q,cS c (m : Int) = Q:=⟨_,rfl⟩
   rw [hQ] at c0
   have HQ : Hid (cS c x.n = Q):=by show _ = _;rw [hm,hQ]
   have HM : Hid (x.n = m):=hm
   clear HARR hm hQ
   rcases (Decidable.em (x.c<=Q)).symm with hsn | hsn
   ·have HN : Hid (¬ SetOK c l):=fun h=>hsn (by have:=(h.2.2 k hlt).2.1;rw [HX.out,HQ.out] at this;exact this)
    have gd : Q < x.c:=by omega
    clear hsn
    go_wp2_with fail
    go_quiet (fail)
    go_wp2
    go_ret
    exact BoolEnd.no HN.out (by repeat (first | exact HFIN.out | refine below_drewN ?_ _ | refine Below.drew ?_))
   have HSN : Hid (x.c<=cS c x.n):=by show _<=_;rw [HQ.out];exact hsn
   have gd : ¬ Q < x.c:=by omega
   have HUP : Hid ((0 < k->cd (sb l (k - 1)) x < 0)->UpS c l (k + 1)):=fun h4=>hu.out.succ (HX.out.symm ▸ HD.out) (HX.out.symm ▸ HSN.out) (HX.out.symm ▸ h200) (fun h0=>by rw [HX.out];exact h4 h0)
   by_cases h0 : 0 < k
   ·have k1 : (0 : Int) < (k : Int):=by omega
    have k2 : (0 : Int)<=(k : Int) - 1:=by omega
    have k3 : (k : Int) - 1 < (l.length : Int):=by omega
    have k4 : ((k : Int) - 1).toNat = k - 1:=by omega
    have k6 : (1 : Int)<=(k : Int):=by omega
    have k5 : IntKind.i64.wrap ((k : Int) - 1) = (k : Int) - 1:=by rw [IntKind.wrap_i64];omega
    have p0:=cell_later hbW (HRP.out h0).1
    have p1:=cell_later hbW (HRP.out h0).2.1
    have p2:=cell_later hbW (HRP.out h0).2.2
    obtain ⟨y,hy⟩ : ∃ y,sb l (k - 1) = y:=⟨_,rfl⟩
    have HY : Hid (sb l (k - 1) = y):=hy
    have HNO : Hid (¬ cd y x < 0->¬ SetOK c l):=fun hneg h=>hneg (by have:=(h.2.2 k hlt).2.2.2 h0;rw [HX.out,HY.out] at this;exact this)
    have HYES : Hid (cd y x < 0->UpS c l (k + 1)):=fun h=>HUP.out (fun _=>by rw [HY.out];exact h)
    rw [hy] at p0 p1 p2
    clear hy
    go_wp2_with fail
    go_quiet (fail)
    obtain ⟨WD,hWD,hbD⟩ : ∃ WD,wq.drewN nq = WD/\Below wq.heap.size wq WD:=⟨_,rfl,below_drewN (Below.refl _ _) _⟩
    rw [hWD]
    have hbE:=hb2.trans (hbD.mono hs2)
    have hsE:=hbE.size
    have t0':=cell_later hbD t0
    have t1':=cell_later hbD t1
    have t2':=cell_later hbD t2
    have g1'':=cell_later hbD g1'
    have p0':=cell_later hbD p0
    have p1':=cell_later hbD p1
    have p2':=cell_later hbD p2
    have hal : ∀ o,Below WD.heap.size WD (WD.alloc o):=fun o=>(Below.refl _ _).alloc (Nat.le_refl _) o
    have HFE : Hid (∀ o,Below w.heap.size w (WD.alloc o)/\Below w2.heap.size w2 (WD.alloc o)):=fun o=>⟨(hb3.trans (hbE.mono hs3)).alloc (Nat.le_trans hs3 hsE) o,hbE.alloc hsE o⟩
    have z0 : ∀ o,(WD.alloc o).cell? ⟨wr.heap.size,0,none⟩ = some (.int .i64 (m : Int)):=fun o=>cell_later (hal o) t0'
    have z1 : ∀ o,(WD.alloc o).cell? ⟨wr.heap.size,1,none⟩ = some (.int .i64 x.c):=fun o=>cell_later (hal o) t1'
    clear t0 t1 t2 g1' p0 p1 p2 c0 hWD hbD hbW hb2 t0' t1' t2' hal
    rcases (Decidable.em (cd y x < 0)).symm with hneg | hneg
    ·have HN : Hid (¬ SetOK c l):=HNO.out (by omega)
     rw [cd_neg,HM.out] at hneg
     have hcs : (m : Int) < y.n\/(¬ (m : Int) < y.n/\((m : Int) == y.n) = true/\x.c<=y.c):=by
      by_cases h1 : (m : Int) < y.n
      ·exact .inl h1
      ·refine .inr ⟨h1,?_,?_⟩
       ·rw [beq_iff_eq];omega
       ·omega
     clear hneg
     rcases hcs with hc1 | ⟨hc1,hc2,hc3⟩
     ·go_wp2
      go_ret
      exact BoolEnd.no HN.out (HFE.out _).1
     ·go_wp2
      go_ret
      exact BoolEnd.no HN.out (HFE.out _).1
    ·have HY2 : Hid (UpS c l (k + 1)):=HYES.out hneg
     rw [cd_neg,HM.out] at hneg
     have hn1 : ¬ (m : Int) < y.n:=by omega
     have hcs : ((m : Int) == y.n) = false\/(((m : Int) == y.n) = true/\¬ x.c<=y.c):=by
      by_cases h1 : (m : Int) = y.n
      ·exact .inr ⟨by rw [beq_iff_eq];exact h1,by omega⟩
      ·exact .inl (by simpa using h1)
     clear hneg
     rcases hcs with hc1 | ⟨hc1,hc2⟩
     ·go_wp2
      go_roundw
      case rel=>exact ⟨k + 1,by omega,by go_num,HY2.out,(HFE.out _).2⟩
      case measure=>simp [intOf];omega
     ·go_wp2
      go_roundw
      case rel=>exact ⟨k + 1,by omega,by go_num,HY2.out,(HFE.out _).2⟩
      case measure=>simp [intOf];omega
   ·have k1 : ¬ (0 : Int) < (k : Int):=by omega
    go_wp2_with fail
    go_quiet (fail)
    go_wp2
    go_roundw
    case rel=>exact ⟨k + 1,by omega,by go_num,HUP.out (fun h=>absurd h h0),(by repeat (first | exact hb2 | refine below_drewN ?_ _ | refine Below.drew ?_))⟩
    case measure=>simp [intOf];omega
  ·have he : k = l.length:=by omega
   subst he
   go_wp2
   go_ret
   exact BoolEnd.yes ⟨HK.out,h6,hu.out⟩ (hb3.trans (hbr.mono hs3))
end Go.Proofs.YtilkdeghknjjhaaGreatDoor
