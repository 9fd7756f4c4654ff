/- A part of the proof. -/
import Derived.Test.YtilkdeghknjjhaaGreatDoorPart16
import Derived.Test.YtilkdeghknjjhaaGreatDoorPart12
import Derived.Deep.LoopGhost
import Derived.Deep.DeepCutAuto
set_option maxRecDepth 20000
set_option maxHeartbeats 3200000
set_option linter.unusedVariables false
namespace Go.Proofs.YtilkdeghknjjhaaGreatDoor
open Go.RowKit M
variable {X w5 : World} {Y : Nat}
theorem results24 (tmps : Array Value) (w : World) (g : Nat) (v1 v2 : Value) (n : Int) (h2 : tmps.getD 10 undef = .pointer (some ⟨g,0,none⟩)) (h3 : tmps.getD 11 undef = .int .i64 n) (hg : w.heap[g]? = some (.cells #[v1,v2] 117 (0,0))) :
  (results Tryz.f173 tmps).run Tryz.prog w = .ok (.tuple #[.agg #[v1,v2],.int .i64 n]) w:=by
 have hl:=run_loadVar_row (P:=Tryz.prog) w g 117 117 #[v1,v2] (0,0) _ hg Tryz.underlying117 rfl info38
 have h2' : tmps[10]?.getD undef = .pointer (some ⟨g,0,none⟩):=by simpa using h2
 have h3' : tmps[11]?.getD undef = .int .i64 n:=by simpa using h3
 simp [results,Tryz.results173,h2',h3',asAddr,hl]
theorem st_succ {c : List (Int × Int)} {x : Sb} {l : List Sb} {i : Nat} {o : List Sb} {p b : Bool} (h : st c x l i = (o,p)) (hb : (!p && decide (cd x (sb l i) < 0)) = b) :
  st c x l (i + 1) = (if (sb l i).c<=cS c (sb l i).n then (if b = true then o ++ [x] else o) else (if b = true then o ++ [x] else o) ++ [sb l i],p || b):=by
 subst hb
 simp only [st,h]
theorem grow_cell {B n : Nat} {v : Value} {xs : List Value} {j : Nat} {u : Value} (hO : X.ownsRow B 122 3 v n xs) (hgrow : X.grownBy w5 v.ownBlock) (hY : some Y ≠ v.ownBlock) (hu : X.cell? ⟨Y,j,none⟩ = some u) : w5.cell? ⟨Y,j,none⟩ = some u :=
 grown_cell (p:=⟨Y,j,none⟩) hgrow (World.block_lt_of_cell? X _ hu) hY hu
def UpdAt (wB wx : World) (Q Y : Nat) (aB : Option Addr) (Jn capB : Nat) (o : List Sb) (y : Sb) : Prop :=
 ∃ (a7 : Option Addr) (cap7 : Nat),wx.heap[Q]? = some (.cells #[.slice aB Jn capB,.slice a7 o.length cap7] 117 (0,0))/\wx.ownsRow Q 122 3 (.slice a7 o.length cap7) o.length (cellsS o)/\Below Q wB wx /\
  wx.cell? ⟨Y,0,none⟩ = some (.int .i64 y.n)/\wx.cell? ⟨Y,1,none⟩ = some (.int .i64 y.c)/\wx.cell? ⟨Y,2,none⟩ = some (.string y.v)
theorem UpdAt.more {wB : World} {Q : Nat} {aB a7 : Option Addr} {Jn capB cap7 : Nat} {o : List Sb} {x y : Sb} {v' : Value} (hb : Below Q wB X) (hQ : X.heap[Q]? = some (.cells #[.slice aB Jn capB,.slice a7 o.length cap7] 117 (0,0)))
  (hO : X.ownsRow Q 122 3 (.slice a7 o.length cap7) o.length (cellsS o)) (c0 : X.cell? ⟨Y,0,none⟩ = some (.int .i64 y.n)) (c1 : X.cell? ⟨Y,1,none⟩ = some (.int .i64 y.c)) (c2 : X.cell? ⟨Y,2,none⟩ = some (.string y.v)) (hne : some Y ≠ (Value.slice a7 o.length cap7).ownBlock) (hQY : Q ≠ Y)
  (hown : w5.ownsRow Q 122 3 v' (o.length + 1) (cellsS o ++ [.int .i64 x.n,.int .i64 x.c,.string x.v])) (hgrow : X.grownBy w5 (Value.slice a7 o.length cap7).ownBlock) :
  ∃ a8 cap8,v' = .slice a8 (o.length + 1) cap8/\w5.cell? ⟨Q,1,none⟩ = some (.slice a7 o.length cap7)/\w5.frozen? ⟨Q,1,none⟩ = false/\Hid (UpdAt wB (w5.setCell ⟨Q,1,none⟩ (.slice a8 (o.length + 1) cap8)) Q Y aB Jn capB (o ++ [x]) y):=by
 obtain ⟨a8,cap8,rfl,hb5,hQ5,s1,s2,hs5⟩:=grow_pack hb hQ hO hown hgrow
 have hp:=pack_end hb5 hQ5 hown
 have hl : (o ++ [x]).length = o.length + 1:=by simp
 have far : ∀ j u,w5.cell? ⟨Y,j,none⟩ = some u->(w5.setCell ⟨Q,1,none⟩ (.slice a8 (o.length + 1) cap8)).cell? ⟨Y,j,none⟩ = some u:=by
  intro j u hu
  rw [World.cell?_setCell_other w5 ⟨Q,1,none⟩ ⟨Y,j,none⟩ _ (fun e=>by cases e;exact hQY rfl)]
  exact hu
 refine ⟨a8,cap8,rfl,s1,s2,⟨a8,cap8,by rw [hl];exact hp.1,by rw [hl,cellsS_snoc];exact hp.2.1,hp.2.2,far _ _ (grow_cell hO hgrow hne c0),far _ _ (grow_cell hO hgrow hne c1),far _ _ (grow_cell hO hgrow hne c2)⟩⟩
set_option maxRecDepth 40000 in
theorem refUpdate_any (vs v vc : Value) (sc c : List (Int × Int)) (l : List Sb) (n k : Int) (s : ByteArray) (w : World) (hrs : Rd w vs sc) (hrd : RdS w v l) (hrc : Rd w vc c) :
  Calls Tryz.prog 173 #[.agg #[vs,v],vc,.int .i64 n,.int .i64 k,.string s] w fun e w'=>UpdEnd w sc c l n k s e w':=by
 obtain ⟨i0,hi,hz0,hz1,hz2⟩:=info_parts Tryz.info122
 obtain ⟨ps,caps,rfl⟩:=hrs.shape
 obtain ⟨a,cap,rfl⟩:=hrd.shape
 obtain ⟨ac,capc,rfl⟩:=hrc.shape
 go_enter Tryz.func173,Tryz.ntmps173
 go_wp2_with fail
 obtain ⟨W,hW,hb,t0,t1,rg⟩ : ∃ W,((w.alloc (.cells #[.slice ps sc.length caps,.slice a l.length cap] 117)).alloc (.cells #[.slice none 0 0,.slice none 0 0] 117)) = W/\Below w.heap.size w W /\
   W.cell? ⟨w.heap.size,0,none⟩ = some (.slice ps sc.length caps)/\W.cell? ⟨w.heap.size,1,none⟩ = some (.slice a l.length cap) /\
   W.heap[w.heap.size + 1]? = some (.cells nilSet 117 (0,0)) :=
  ⟨_,rfl,((Below.refl _ _).alloc (Nat.le_refl _) _).alloc (by simp) _,by simp [go_sem],by simp [go_sem],heap_alloc2_new w _ _⟩
 rw [hW]
 refine (refset_any _ _ sc l W (hrs.below hb) (hrd.below hb)).mono ?_
 rintro e w1 ⟨r,rfl,hr,hb2⟩
 have hb1 : Below w.heap.size w w1:=hb.trans (hb2.mono hb.size)
 have e0:=cell_later hb2 t0
 have e1:=cell_later hb2 t1
 have HG : Hid (w1.heap[w.heap.size + 1]? = some (.cells nilSet 117 (0,0))):=heap_later hb2 rg
 have hrd1:=hrd.below hb1
 have hrs1:=hrs.below hb1
 have hrc1:=hrc.below hb1
 have hs1:=hb1.size
 clear t0 t1 rg hW hb hb2 hrc hrd hrs
 go_wp2_with fail
 refine (refClock_any _ c w1 hrc1).mono ?_
 rintro e w2 ⟨ok,F,rfl,hok,hF,hb2⟩
 have hb3 : Below w.heap.size w w2:=hb1.trans (hb2.mono hs1)
 have hs2:=hb3.size
 go_upto_region 3 with (first
  | (refine wpList_store_row rfl 241 _ _ rfl w2.heap.size (arr F) rfl rfl 241 (arr zF) (alloc_lit w2 (arr zF)) (by rw [arr_size];exact info61) (by rw [arr_size,arr_size]) (one_arr _) ?_))
 obtain ⟨w3,hw3,hr3,hba⟩ : ∃ w3,((w2.alloc (.cells (arr zF) 241)).setRow w2.heap.size (arr F)) = w3/\w3.heap[w2.heap.size]? = some (.cells (arr F) 241 (0,0))/\Below w2.heap.size w2 w3 :=
  ⟨_,rfl,setRow_heap _ _ _ _ _ _ (alloc_lit w2 (arr zF)),below_setRow ((Below.refl _ _).alloc (Nat.le_refl _) _) (Nat.le_refl _) _⟩
 rw [zlit] at hw3
 rw [hw3]
 clear hw3
 have hb13:=hb2.trans (hba.mono hb2.size)
 have hb03:=hb3.trans (hba.mono hs2)
 have hs3:=hb03.size
 have f0:=cell_later hb13 e0
 have f1:=cell_later hb13 e1
 have HG3 : Hid (w3.heap[w.heap.size + 1]? = some (.cells nilSet 117 (0,0))):=heap_later hb13 HG.out
 have hrd3:=hrd1.below hb13
 have hrs3:=hrs1.below hb13
 have hrc3:=hrc1.below hb13
 have HR3 : Hid (w3.heap[w2.heap.size]? = some (.cells (arr F) 241 (0,0))):=hr3
 clear e0 e1 HG hrd1 hrs1 hrc1 hb2 hba hr3 hb13 hb1 hs1 hb3
 go_wp2_with fail
 refine (refdot_any n k w3).mono ?_
 rintro e w3 ⟨rfl,rfl⟩
 go_wp2_with fail
 refine (refCovers_any _ sc n k w3 hrs3).mono ?_
 rintro e w4 ⟨r3,rfl,hr3,hb4⟩
 have hb04:=hb03.trans (hb4.mono hs3)
 have hs4:=hb04.size
 have hrc4:=hrc3.below hb4
 go_wp2_with fail
 refine (refCovers_any _ c n k w4 hrc4).mono ?_
 rintro e w5 ⟨r4,rfl,hr4,hb5⟩
 have hb35:=hb4.trans (hb5.mono hb4.size)
 have hb05:=hb03.trans (hb35.mono hs3)
 have hs5:=hb05.size
 have g0:=cell_later hb35 f0
 have g1:=cell_later hb35 f1
 have HG5 : Hid (w5.heap[w.heap.size + 1]? = some (.cells nilSet 117 (0,0))):=heap_later hb35 HG3.out
 have hrd5:=hrd3.below hb35
 have hrs5:=hrs3.below hb35
 have HR5 : Hid (w5.heap[w2.heap.size]? = some (.cells (arr F) 241 (0,0))):=heap_later hb35 HR3.out
 clear f0 f1 HG3 hrd3 hrs3 hrc3 HR3 hb4 hb5 hb35 hb04 hrc4 hs3 hs4
 go_upto_region 6 with fail
 cases r
 ·have HN : Hid (¬ UpOK sc c l n k s):=fun h=>Bool.noConfusion (hr.2 h.1)
  clear hr hok hF hr3 hr4 hrd5 hrs5
  go_wp2_with (first
   | (refine wpList_store_row rfl 117 _ _ rfl (w.heap.size + 1) nilSet rfl rfl 117 nilSet HG5.out info38 rfl one_nilSet ?_))
  refine bodyPost_ret (results24 _ _ (w.heap.size + 1) _ _ 1 rfl rfl (setRow_heap _ _ _ _ _ _ HG5.out)) rfl ⟨below_setRow hb05 (by omega) _,.inl ⟨HN.out,rfl⟩⟩
 have HK : Hid (SetOK sc l):=hr.1 rfl
 clear hr
 cases ok
 ·have HN : Hid (¬ UpOK sc c l n k s):=fun h=>Bool.noConfusion (hok.2 h.2.1)
  clear hok hF hr3 hr4 hrd5 hrs5
  go_wp2_with (first
   | (refine wpList_store_row rfl 117 _ _ rfl (w.heap.size + 1) nilSet rfl rfl 117 nilSet HG5.out info38 rfl one_nilSet ?_))
  refine bodyPost_ret (results24 _ _ (w.heap.size + 1) _ _ 1 rfl rfl (setRow_heap _ _ _ _ _ _ HG5.out)) rfl ⟨below_setRow hb05 (by omega) _,.inl ⟨HN.out,rfl⟩⟩
 have HK2 : Hid (Clk c):=hok.1 rfl
 have HF : Hid (F = cN c):=hF rfl
 clear hok hF
 rcases (Decidable.em (dotB n k = true)).symm with hd | hd
 ·have HN : Hid (¬ UpOK sc c l n k s):=fun h=>hd ((dotB_iff _ _).2 h.2.2.1)
  have hd' : dotB n k = false:=by simpa using hd
  rw [hd']
  clear hd hd' hr3 hr4 hrd5 hrs5
  go_wp2_with (first
   | (refine wpList_store_row rfl 117 _ _ rfl (w.heap.size + 1) nilSet rfl rfl 117 nilSet HG5.out info38 rfl one_nilSet ?_))
  refine bodyPost_ret (results24 _ _ (w.heap.size + 1) _ _ 1 rfl rfl (setRow_heap _ _ _ _ _ _ HG5.out)) rfl ⟨below_setRow hb05 (by omega) _,.inl ⟨HN.out,rfl⟩⟩
 have HD : Hid (Dot n k):=(dotB_iff _ _).1 hd
 rw [hd]
 clear hd
 rcases (Decidable.em (s.size<=200)).symm with h200 | h200
 ·have HN : Hid (¬ UpOK sc c l n k s):=fun h=>h200 h.2.2.2.1
  have gd : (200 : Int) < (s.size : Int):=by omega
  clear h200 hr3 hr4 hrd5 hrs5
  go_wp2_with (first
   | (refine wpList_store_row rfl 117 _ _ rfl (w.heap.size + 1) nilSet rfl rfl 117 nilSet HG5.out info38 rfl one_nilSet ?_))
  refine bodyPost_ret (results24 _ _ (w.heap.size + 1) _ _ 1 rfl rfl (setRow_heap _ _ _ _ _ _ HG5.out)) rfl ⟨below_setRow hb05 (by omega) _,.inl ⟨HN.out,rfl⟩⟩
 have gv : ¬ (200 : Int) < (s.size : Int):=by omega
 cases r3
 rotate_left
 ·have HN : Hid (¬ UpOK sc c l n k s):=fun h=>h.2.2.2.2.1 (hr3.1 rfl).2.2
  clear h200 hr3 hr4 hrd5 hrs5
  go_wp2_with (first
   | (refine wpList_store_row rfl 117 _ _ rfl (w.heap.size + 1) nilSet rfl rfl 117 nilSet HG5.out info38 rfl one_nilSet ?_))
  refine bodyPost_ret (results24 _ _ (w.heap.size + 1) _ _ 1 rfl rfl (setRow_heap _ _ _ _ _ _ HG5.out)) rfl ⟨below_setRow hb05 (by omega) _,.inl ⟨HN.out,rfl⟩⟩
 have HS1 : Hid (¬ k<=cS sc n):=fun h=>Bool.noConfusion (hr3.2 ⟨HK.out.1,HD.out,h⟩)
 clear hr3
 cases r4
 rotate_left
 ·have HN : Hid (¬ UpOK sc c l n k s):=fun h=>h.2.2.2.2.2 (hr4.1 rfl).2.2
  clear h200 hr4 hrd5 hrs5
  go_wp2_with (first
   | (refine wpList_store_row rfl 117 _ _ rfl (w.heap.size + 1) nilSet rfl rfl 117 nilSet HG5.out info38 rfl one_nilSet ?_))
  refine bodyPost_ret (results24 _ _ (w.heap.size + 1) _ _ 1 rfl rfl (setRow_heap _ _ _ _ _ _ HG5.out)) rfl ⟨below_setRow hb05 (by omega) _,.inl ⟨HN.out,rfl⟩⟩
 have HS2 : Hid (¬ k<=cS c n):=fun h=>Bool.noConfusion (hr4.2 ⟨HK2.out,HD.out,h⟩)
 clear hr4
 have HOK : Hid (UpOK sc c l n k s):=⟨HK.out,HK2.out,HD.out,h200,HS1.out,HS2.out⟩
 clear h200
 obtain ⟨m,rfl⟩ : ∃ m : Nat,n = m:=⟨n.toNat,by have:=HD.out.1;omega⟩
 have hm16 : m < 16:=by have:=HD.out.2.1;omega
 go_wp2_with fail
 refine (refClock_any _ sc w5 hrs5).mono ?_
 rintro e w6 ⟨ok2,G,rfl,hok2,hG,hb6⟩
 have hot : ok2 = true:=hok2.2 HK.out.1
 subst hot
 have HFG : Hid (G = cN sc):=hG rfl
 have hb06:=hb05.trans (hb6.mono hs5)
 have hs6:=hb06.size
 have HR6 : Hid (w6.heap[w2.heap.size]? = some (.cells (arr F) 241 (0,0))):=heap_later hb6 HR5.out
 have hlt6 : w2.heap.size < w6.heap.size:=(Array.getElem?_eq_some_iff.1 HR6.out).1
 clear hok2 hG
 go_upto_region 9 with (first
  | (refine wpList_store_row rfl 241 _ _ rfl w6.heap.size (arr G) rfl rfl 241 (arr zF) (alloc_lit w6 (arr zF)) (by rw [arr_size];exact info61) (by rw [arr_size,arr_size]) (one_arr _) ?_))
 obtain ⟨w7,hw7,hr7,hba⟩ : ∃ w7,((w6.alloc (.cells (arr zF) 241)).setRow w6.heap.size (arr G)) = w7/\w7.heap[w6.heap.size]? = some (.cells (arr G) 241 (0,0))/\Below w6.heap.size w6 w7 :=
  ⟨_,rfl,setRow_heap _ _ _ _ _ _ (alloc_lit w6 (arr zF)),below_setRow ((Below.refl _ _).alloc (Nat.le_refl _) _) (Nat.le_refl _) _⟩
 rw [zlit] at hw7
 rw [hw7]
 clear hw7
 have HR7 : Hid (w7.heap[w2.heap.size]? = some (.cells (arr F) 241 (0,0))):=heap_later hba HR6.out
 have HS7 : Hid (w7.heap[w6.heap.size]? = some (.cells (arr G) 241 (0,0))):=hr7
 have hb57:=hb6.trans (hba.mono hb6.size)
 have hb07:=hb05.trans (hb57.mono hs5)
 have hs7:=hb07.size
 clear hr7 HR6 hb6 hba hs6 hb06
 go_wp2_with (first
  | (refine wpList_load_row rfl 241 _ rfl w2.heap.size rfl 241 (arr F) (0,0) _ HR7.out Tryz.underlying241 rfl (by rw [arr_size];exact info61) ?_)
  | (refine wpList_load_row rfl 241 _ rfl w6.heap.size rfl 241 (arr G) (0,0) _ HS7.out Tryz.underlying241 rfl (by rw [arr_size];exact info61) ?_))
 refine (refboth_any F G w7).mono ?_
 rintro e w8 ⟨rfl,hb8⟩
 have hs78:=hb8.size
 go_upto_region 10 with (first
  | (refine wpList_store_row rfl 241 _ _ rfl w8.heap.size (arr (bth F G 16)) rfl rfl 241 (arr zF) (alloc_lit w8 (arr zF)) (by rw [arr_size];exact info61) (by rw [arr_size,arr_size]) (one_arr _) ?_))
 obtain ⟨w9,hw9,hr9,hba⟩ : ∃ w9,((w8.alloc (.cells (arr zF) 241)).setRow w8.heap.size (arr (bth F G 16))) = w9/\w9.heap[w8.heap.size]? = some (.cells (arr (bth F G 16)) 241 (0,0))/\Below w8.heap.size w8 w9 :=
  ⟨_,rfl,setRow_heap _ _ _ _ _ _ (alloc_lit w8 (arr zF)),below_setRow ((Below.refl _ _).alloc (Nat.le_refl _) _) (Nat.le_refl _) _⟩
 rw [zlit] at hw9
 rw [hw9]
 clear hw9
 have hb79:=hb8.trans (hba.mono hs78)
 have z0 : w9.cell? ⟨w8.heap.size,m,none⟩ = some (.int .i64 (bth F G 16 m)):=by rw [cell_of_row _ _ _ _ _ _ hr9];exact arr_at _ _ hm16
 have z1 : w9.frozen? ⟨w8.heap.size,m,none⟩ = false:=frozen_of_row _ _ _ _ _ hr9
 have HR9 : Hid (w9.heap[w8.heap.size]? = some (.cells (arr (bth F G 16)) 241 (0,0))):=hr9
 have q0 : (0 : Int)<=(m : Int):=by omega
 have q1 : (m : Int) < 16:=by omega
 clear hr9 hb8 hba
 go_upto_region 11 with fail
 obtain ⟨wA,hwA,hrA,hbA⟩ : ∃ wA,(w9.setCell ⟨w8.heap.size,m,none⟩ (.int .i64 k)) = wA/\wA.heap[w8.heap.size]? = some (.cells (arr (upF sc c m k)) 241 (0,0))/\Below w7.heap.size w7 wA:=by
  refine ⟨_,rfl,?_,hb79.setCell hs78 _⟩
  rw [heap_setCell_same _ _ _ _ _ _ HR9.out]
  congr 2
  refine arr_set _ _ _ _ (fun j=>?_)
  unfold upF
  rw [HF.out,HFG.out]
 rw [hwA]
 have HRA : Hid (wA.heap[w8.heap.size]? = some (.cells (arr (upF sc c m k)) 241 (0,0))):=hrA
 clear hwA hrA z0 z1 HR9 hb79 HS7
 go_wp2_with (first
  | (refine wpList_load_row rfl 241 _ rfl w8.heap.size rfl 241 (arr (upF sc c m k)) (0,0) _ HRA.out Tryz.underlying241 rfl (by rw [arr_size];exact info61) ?_))
 refine (refEntries_any (upF sc c m k) wA).mono ?_
 rintro e wB ⟨vB,rfl,hoB,hbB⟩
 rw [upF_jn (clk_us' HK.out.1) (clk_us' HK2.out) HD.out (by have:=HS1.out;omega) (by have:=HS2.out;omega)] at hoB
 have hb7B:=hbA.trans (hbB.mono hbA.size)
 have hb5B:=hb57.trans (hb7B.mono hb57.size)
 have hb0B:=hb05.trans (hb5B.mono hs5)
 have hsB:=hb0B.size
 have HGB : Hid (wB.heap[w.heap.size + 1]? = some (.cells nilSet 117 (0,0))):=heap_later hb5B HG5.out
 have HRB : Hid (wB.heap[w2.heap.size]? = some (.cells (arr F) 241 (0,0))):=heap_later hb7B HR7.out
 have HEB : Hid (wB.cell? ⟨w.heap.size,1,none⟩ = some (.slice a l.length cap)):=cell_later hb5B g1
 have hrdB:=hrd5.below hb5B
 obtain ⟨aB,capB,rfl⟩:=own_shape hoB
 have HOB : Hid (wB.ownsRow w.heap.size 183 2 (.slice aB (jn [sc,c,[((m : Int),k)]]).length capB) (jn [sc,c,[((m : Int),k)]]).length (cellsE (jn [sc,c,[((m : Int),k)]]))):=own_base (B:=w.heap.size) hoB (Nat.le_trans hs7 hbA.size)
 obtain ⟨Jn,hJn⟩ : ∃ Jn,(jn [sc,c,[((m : Int),k)]]).length = Jn:=⟨_,rfl⟩
 have HJN : Hid ((jn [sc,c,[((m : Int),k)]]).length = Jn):=hJn
 rw [hJn]
 clear hoB hb7B hb5B hbA hbB hrd5 HR5 HR7 HG5 HRA g0 g1 hb57 hb07 hJn hrs5 hb05 hb03
 obtain ⟨a',cap',hv,_,_,hA⟩:=hrdB
 obtain ⟨rfl,-,rfl⟩ : a = a'/\l.length = l.length/\cap = cap':=by simpa using hv
 have HA : Hid (0 < l.length->∃ b off,a = some ⟨b,off,none⟩/\∀ j,j < l.length->wB.cell? ⟨b,off + j * 3,none⟩ = some (.int .i64 (sb l j).n)/\wB.cell? ⟨b,off + j * 3 + 1,none⟩ = some (.int .i64 (sb l j).c)/\wB.cell? ⟨b,off + j * 3 + 2,none⟩ = some (.string (sb l j).v)):=hA
 obtain ⟨x,hx⟩ : ∃ x : Sb,x = ⟨(m : Int),k,s⟩:=⟨_,rfl⟩
 have HX : Hid (x = ⟨(m : Int),k,s⟩):=hx
 have hl6:=HK.out.2.1
 clear hA hv hx
 go_upto_region 14 with fail
 go_loopg [22,23] l.length (fun g s22 s23 wx=>∃ (i : Nat) (a6 : Option Addr) (cap6 : Nat),i<=l.length/\g = l.length - i/\s22 = .bool (st c x l i).2/\s23 = .int .i64 i /\
  wx.heap[wB.heap.size]? = some (.cells #[.slice aB Jn capB,.slice a6 (st c x l i).1.length cap6] 117 (0,0))/\wx.ownsRow wB.heap.size 122 3 (.slice a6 (st c x l i).1.length cap6) (st c x l i).1.length (cellsS (st c x l i).1)/\Below wB.heap.size wB wx)
 case atStart=>exact ⟨0,none,0,Nat.zero_le _,rfl,rfl,rfl,heap_alloc_new wB _,World.ownsRow_nil _ _ _ _,(Below.refl _ _).alloc (Nat.le_refl _) _⟩
 case round =>
  obtain ⟨i,a6,cap6,hi1,rfl,rfl,rfl,hQ,ho,hbr⟩:=hrel
  have hsz:=hbr.size
  have g1:=cell_later hbr HEB.out
  have hil : i < l.length\/i = l.length:=by omega
  rcases hil with hlt | hil
  ·obtain ⟨b,off,rfl,hr⟩:=HA.out (by omega)
   have q2 : (i : Int) < (l.length : Int):=by omega
   have q3 : (0 : Int)<=(i : Int):=by omega
   have e0:=cell_later hbr (hr i hlt).1
   have e1:=cell_later hbr (hr i hlt).2.1
   have e2:=cell_later hbr (hr i hlt).2.2
   have hdot:=(HK.out.2.2 i hlt).1
   have hsl:=st_len c x l i
   obtain ⟨o,p,hop⟩ : ∃ o p,st c x l i = (o,p):=⟨_,_,rfl⟩
   have HST : Hid (∀ b,(!p && decide (cd x (sb l i) < 0)) = b->st c x l (i + 1) = (if (sb l i).c<=cS c (sb l i).n then (if b = true then o ++ [x] else o) else (if b = true then o ++ [x] else o) ++ [sb l i],p || b)):=fun b hb=>st_succ hop hb
   rw [hop] at hQ ho hsl
   rw [hop]
   simp only at hQ ho hsl
   obtain ⟨y,hy⟩ : ∃ y,sb l i = y:=⟨_,rfl⟩
   rw [hy] at e0 e1 e2 hdot HST
   have HDY : Hid (Dot y.n y.c):=hdot
   have hno : o.length<=7:=by
    have : (if p = true then 0 else 1)<=1:=by split <;> omega
    omega
   have HQ : Hid (wr.heap[wB.heap.size]? = some (.cells #[.slice aB Jn capB,.slice a6 o.length cap6] 117 (0,0))):=hQ
   have HO : Hid (wr.ownsRow wB.heap.size 122 3 (.slice a6 o.length cap6) o.length (cellsS o)):=ho
   clear hop hsl hy hr hdot hQ ho
   go_upto_region 17 with fail
   obtain ⟨W2,hW2,hbW,t0,t1,t2⟩ : ∃ W2,(wr.alloc (.cells #[.int .i64 y.n,.int .i64 y.c,.string y.v] 122)) = W2/\Below wr.heap.size wr W2 /\
     W2.cell? ⟨wr.heap.size,0,none⟩ = some (.int .i64 y.n)/\W2.cell? ⟨wr.heap.size,1,none⟩ = some (.int .i64 y.c)/\W2.cell? ⟨wr.heap.size,2,none⟩ = some (.string y.v) :=
    ⟨_,rfl,(Below.refl _ _).alloc (Nat.le_refl _) _,by simp [go_sem],by simp [go_sem],by simp [go_sem]⟩
   rw [hW2]
   have HUA : Hid (W2.heap[wB.heap.size]? = some (.cells #[.slice aB Jn capB,.slice a6 o.length cap6] 117 (0,0))/\W2.ownsRow wB.heap.size 122 3 (.slice a6 o.length cap6) o.length (cellsS o)/\Below wB.heap.size wB W2):=⟨heap_later hbW HQ.out,ownsRow_below HO.out hbW,hbr.trans (hbW.mono hsz)⟩
   have HNE : Hid (some wr.heap.size ≠ (Value.slice a6 o.length cap6).ownBlock/\wB.heap.size ≠ wr.heap.size):=⟨fun e=>by have:=(HO.out.lt _ e.symm).2;omega,by have:=(Array.getElem?_eq_some_iff.1 HQ.out).1;omega⟩
   have hsB2 : wB.heap.size<=W2.heap.size:=HUA.out.2.2.size
   obtain ⟨B,hB⟩ : ∃ B,(!p && decide (cd x y < 0)) = B:=⟨_,rfl⟩
   have HBB : Hid ((!p && decide (cd x y < 0)) = B):=hB
   have HWS : Hid (W2.heap.size = wr.heap.size + 1):=by show _ = _;rw [<- hW2];simp
   clear hW2 hbW e0 e1 e2 g1 HQ HO hB
   go_cut [112] (fun s112 wx=>W2 = wx/\s112 = .bool B)
   case first =>
    cases p
    ·have hB:=HBB.out
     simp only [Bool.not_false,Bool.true_and] at hB
     have hiff:=cd_neg x y
     rw [HX.out] at hiff
     simp only at hiff
     rw [HX.out] at hB
     have hcs : ((m : Int) < y.n/\B = true)\/(¬ (m : Int) < y.n/\(y.n == (m : Int)) = true/\k < y.c/\B = true)\/(¬ (m : Int) < y.n/\(y.n == (m : Int)) = true/\¬ k < y.c/\B = false)\/(¬ (m : Int) < y.n/\(y.n == (m : Int)) = false/\B = false):=by
      by_cases h1 : (m : Int) < y.n
      ·exact .inl ⟨h1,by rw [<- hB];exact decide_eq_true (hiff.2 (.inl h1))⟩
      ·by_cases h2 : (m : Int) = y.n
       ·by_cases h3 : k < y.c
        ·exact .inr (.inl ⟨h1,by rw [beq_iff_eq];exact h2.symm,h3,by rw [<- hB];exact decide_eq_true (hiff.2 (.inr ⟨h2,h3⟩))⟩)
        ·exact .inr (.inr (.inl ⟨h1,by rw [beq_iff_eq];exact h2.symm,h3,by rw [<- hB];exact decide_eq_false (fun h=>by have:=hiff.1 h;omega)⟩))
       ·exact .inr (.inr (.inr ⟨h1,by simpa using fun h=>h2 h.symm,by rw [<- hB];exact decide_eq_false (fun h=>by have:=hiff.1 h;omega)⟩))
     clear hB hiff
     rcases hcs with ⟨h1,hBt⟩ | ⟨h1,h2,h3,hBt⟩ | ⟨h1,h2,h3,hBt⟩ | ⟨h1,h2,hBt⟩
     all_goals
      have HBT : Hid (B = _):=hBt
      clear hBt
      go_wp2_with fail
      go_meet
      exact ⟨rfl,by rw [HBT.out]⟩
    ·have hB : B = false:=by rw [<- HBB.out];rfl
     have HBT : Hid (B = false):=hB
     clear hB
     go_wp2_with fail
     go_meet
     exact ⟨rfl,by rw [HBT.out]⟩
   case rest =>
   obtain ⟨rfl,rfl⟩:=hcut
   go_upto_if 112 with fail
   go_cut [22] (fun s22 wx=>s22 = .bool (p || B)/\Hid (UpdAt wB wx wB.heap.size wr.heap.size aB Jn capB (if B = true then o ++ [x] else o) y))
   case first =>
    cases B
    ·have HPB : Hid ((p || false) = p):=by show _ = _;simp
     have HU1 : Hid (UpdAt wB W2 wB.heap.size wr.heap.size aB Jn capB o y):=⟨a6,cap6,HUA.out.1,HUA.out.2.1,HUA.out.2.2,t0,t1,t2⟩
     clear t0 t1 t2
     go_wp2_with fail
     go_meet
     exact ⟨by rw [HPB.out],HU1⟩
    ·have HPB : Hid ((p || true) = true):=by show _ = _;simp
     have hQ1 : W2.cell? ⟨wB.heap.size,1,none⟩ = some (.slice a6 o.length cap6):=by rw [cell_of_row _ _ _ _ _ _ HUA.out.1];rfl
     have HC : Hid (W2.cell? ⟨wr.heap.size,0,none⟩ = some (.int .i64 y.n)/\W2.cell? ⟨wr.heap.size,1,none⟩ = some (.int .i64 y.c)/\W2.cell? ⟨wr.heap.size,2,none⟩ = some (.string y.v)):=⟨t0,t1,t2⟩
     clear t0 t1 t2
     go_wp2_with (first
      | (at_builtin;refine wpList_append_own _ rfl _ _ 115 rfl wB.heap.size 122 i0 (.agg #[.int .i64 0,.int .i64 0,.string ByteArray.empty]) 3 32 Tryz.underlying115 hi hz0 hz1 hz2 rfl (by decide) _ _ _ rfl (HUA.out.2.1.alloc _) ⟨W2.heap.size,0,none⟩ 1 1 [.int .i64 (m : Int),.int .i64 k,.string s] rfl rfl (cells_three_new _ _ _ _ _) (by intro u hu;simp at hu;rcases hu with rfl | rfl | rfl <;> rfl) (by unfold maxLen;omega) (by omega) (by simp;omega) ?_))
     ·intro v7 w5 hown hgrow _
      have hal : ∀ ob,Below W2.heap.size W2 (W2.alloc ob):=fun ob=>(Below.refl _ _).alloc (Nat.le_refl _) ob
      obtain ⟨a8,cap8,rfl,s1,s2,HUP⟩:=UpdAt.more (x:=⟨(m : Int),k,s⟩) (HUA.out.2.2.alloc hsB2 _) (heap_later (hal _) HUA.out.1) (HUA.out.2.1.alloc _) (cell_later (hal _) HC.out.1) (cell_later (hal _) HC.out.2.1) (cell_later (hal _) HC.out.2.2) HNE.out.1 HNE.out.2 hown hgrow
      rw [<- HX.out] at HUP
      clear hown hgrow hal hQ1
      go_wp2_with fail
      go_meet
      exact ⟨by rw [HPB.out],HUP⟩
   case rest =>
   obtain ⟨rfl,hU⟩:=hcut
   rename_i wold
   obtain ⟨o1,ho1⟩ : ∃ o1,(if B = true then o ++ [x] else o) = o1:=⟨_,rfl⟩
   have hn1 : o1.length<=8:=by
    rw [<- ho1]
    split
    ·simp;omega
    ·omega
   have HS0 : Hid (st c x l (i + 1) = (if y.c<=cS c y.n then o1 else o1 ++ [y],p || B)):=by
    show _ = _
    rw [HST.out B HBB.out,ho1]
   rw [ho1] at hU
   obtain ⟨P1,hP1⟩ : ∃ P1,(p || B) = P1:=⟨_,rfl⟩
   rw [hP1] at HS0
   rw [hP1]
   obtain ⟨a7,cap7,hQ7,hO7,hb7,t0,t1,t2⟩:=hU.out
   obtain ⟨my,hmy⟩ : ∃ my : Nat,y.n = my:=⟨y.n.toNat,by have:=HDY.out.1;omega⟩
   have hmy16 : my < 16:=by have:=HDY.out.2.1;omega
   have c0 : wc.cell? ⟨w2.heap.size,my,none⟩ = some (.int .i64 (cS c (my : Int))):=by
    rw [cell_of_row _ _ _ _ _ _ (heap_later hb7 HRB.out),arr_at _ _ hmy16,HF.out];rfl
   rw [hmy] at t0 HS0
   obtain ⟨Cm,hCm⟩ : ∃ Cm,cS c (my : Int) = Cm:=⟨_,rfl⟩
   rw [hCm] at c0 HS0
   have HQ7 : Hid (wc.heap[wB.heap.size]? = some (.cells #[.slice aB Jn capB,.slice a7 o1.length cap7] 117 (0,0))):=hQ7
   have HO7 : Hid (wc.ownsRow wB.heap.size 122 3 (.slice a7 o1.length cap7) o1.length (cellsS o1)):=hO7
   have HB7 : Hid (Below wB.heap.size wB wc):=hb7
   have HYN : Hid (y.n = my):=hmy
   have hs7c:=hb7.size
   clear hQ7 hO7 hb7 hmy hCm hP1 ho1 hU HST HBB HUA HNE HWS hsB2 hno
   by_cases hsn : y.c<=Cm
   ·have gd : ¬ Cm < y.c:=by omega
    have HSF : Hid (st c x l (i + 1) = (o1,P1)):=by
     show _ = _
     rw [HS0.out,if_pos hsn]
    clear HS0 hsn t2
    go_wp2_with fail
    go_quiet (fail)
    go_wp2
    go_roundg (l.length - (i + 1))
    case measure=>omega
    case rel =>
     have hs:=HSF.out
     exact ⟨i + 1,a7,cap7,by omega,rfl,by rw [hs],by go_num,by rw [hs];exact HQ7.out,by rw [hs];exact HO7.out,below_drewN HB7.out _⟩
   ·have gd : Cm < y.c:=by omega
    have HSF : Hid (st c x l (i + 1) = (o1 ++ [y],P1)):=by
     show _ = _
     rw [HS0.out,if_neg hsn]
    clear HS0 hsn
    go_wp2_with fail
    go_quiet (fail)
    obtain ⟨WD,hWD,hbD⟩ : ∃ WD,wc.drewN nq = WD/\Below wc.heap.size wc WD:=⟨_,rfl,below_drewN (Below.refl _ _) _⟩
    rw [hWD]
    have hbE:=HB7.out.trans (hbD.mono hs7c)
    have hsE:=hbE.size
    have t0':=cell_later hbD t0
    have t1':=cell_later hbD t1
    have t2':=cell_later hbD t2
    have HHD : Hid (WD.heap[wB.heap.size]? = some (.cells #[.slice aB Jn capB,.slice a7 o1.length cap7] 117 (0,0))):=heap_later hbD HQ7.out
    have HOD : Hid (WD.ownsRow wB.heap.size 122 3 (.slice a7 o1.length cap7) o1.length (cellsS o1)):=ownsRow_below HO7.out hbD
    have hQ1 : WD.cell? ⟨wB.heap.size,1,none⟩ = some (.slice a7 o1.length cap7):=by rw [cell_of_row _ _ _ _ _ _ HHD.out];rfl
    clear t0 t1 t2 c0 hWD HQ7 HO7
    go_wp2_with (first
     | (at_builtin;refine wpList_append_own _ rfl _ _ 115 rfl wB.heap.size 122 i0 (.agg #[.int .i64 0,.int .i64 0,.string ByteArray.empty]) 3 32 Tryz.underlying115 hi hz0 hz1 hz2 rfl (by decide) _ _ _ rfl (HOD.out.alloc _) ⟨WD.heap.size,0,none⟩ 1 1 [.int .i64 (my : Int),.int .i64 y.c,.string y.v] rfl rfl (cells_three_new _ _ _ _ _) (by intro u hu;simp at hu;rcases hu with rfl | rfl | rfl <;> rfl) (by unfold maxLen;omega) (by omega) (by simp;omega) ?_))
    intro v7 w5 hown hgrow _
    obtain ⟨a8,cap8,rfl,hb5,hQ5,s1,s2,hs5'⟩:=grow_pack (hbE.alloc hsE _) (heap_later ((Below.refl _ _).alloc (Nat.le_refl _) _) HHD.out) (HOD.out.alloc _) hown hgrow
    have HP : Hid (w5.ownsRow wB.heap.size 122 3 (.slice a8 (o1.length + 1) cap8) (o1.length + 1) (cellsS o1 ++ [.int .i64 (my : Int),.int .i64 y.c,.string y.v])/\Below wB.heap.size wB w5/\w5.heap[wB.heap.size]? = some (.cells #[.slice aB Jn capB,.slice a7 o1.length cap7] 117 (0,0))):=⟨hown,hb5,hQ5⟩
    clear hown hgrow hb5 hQ5 hQ1
    go_wp2
    go_roundg (l.length - (i + 1))
    case measure=>omega
    case rel =>
     have hp:=pack_end HP.out.2.1 HP.out.2.2 HP.out.1
     have hs:=HSF.out
     have e9 : (o1 ++ [y]).length = o1.length + 1:=by simp
     exact ⟨i + 1,a8,cap8,by omega,rfl,by rw [hs],by go_num,by rw [hs];simp only;rw [e9];exact hp.1,by rw [hs];simp only;rw [e9,cellsS_snoc,HYN.out];exact hp.2.1,hp.2.2⟩
  ·subst hil
   have hnl : ¬ (l.length : Int) < (l.length : Int):=by omega
   have hsl:=st_len c x l l.length
   obtain ⟨o,p,hop⟩ : ∃ o p,st c x l l.length = (o,p):=⟨_,_,rfl⟩
   have HE9 : Hid (stEnd c x l = if p = true then o else o ++ [x]):=by
    show _ = _
    unfold stEnd
    rw [hop]
   rw [hop] at hQ ho hsl
   rw [hop]
   simp only at hQ ho hsl
   have hno : o.length<=7:=by
    have : (if p = true then 0 else 1)<=1:=by split <;> omega
    omega
   have HXS : Hid (¬ x.c<=cS sc x.n):=by
    show ¬ _
    rw [HX.out]
    have:=HS1.out
    simp only
    omega
   have HQ : Hid (wr.heap[wB.heap.size]? = some (.cells #[.slice aB Jn capB,.slice a6 o.length cap6] 117 (0,0))):=hQ
   have HO : Hid (wr.ownsRow wB.heap.size 122 3 (.slice a6 o.length cap6) o.length (cellsS o)):=ho
   have HBR : Hid (Below wB.heap.size wB wr):=hbr
   have zQ1 : wr.cell? ⟨wB.heap.size,1,none⟩ = some (.slice a6 o.length cap6):=by rw [cell_of_row _ _ _ _ _ _ hQ];rfl
   clear hop hsl hQ ho hbr
   go_upto_if 136 with fail
   go_cut [] from 136 to 145 (fun wx=>Hid (∃ (a7 : Option Addr) (cap7 : Nat),wx.heap[wB.heap.size]? = some (.cells #[.slice aB Jn capB,.slice a7 (stEnd c x l).length cap7] 117 (0,0))/\wx.ownsRow wB.heap.size 122 3 (.slice a7 (stEnd c x l).length cap7) (stEnd c x l).length (cellsS (stEnd c x l))/\Below wB.heap.size wB wx))
   case first =>
    cases p
    ·have HE8 : Hid (stEnd c x l = o ++ [x]/\(stEnd c x l).length = o.length + 1):=by
      show _/\_
      rw [HE9.out,if_neg (by simp)]
      exact ⟨rfl,by simp⟩
     clear HE9
     go_wp2_with (first
      | (at_builtin;refine wpList_append_own _ rfl _ _ 115 rfl wB.heap.size 122 i0 (.agg #[.int .i64 0,.int .i64 0,.string ByteArray.empty]) 3 32 Tryz.underlying115 hi hz0 hz1 hz2 rfl (by decide) _ _ _ rfl (HO.out.alloc _) ⟨wr.heap.size,0,none⟩ 1 1 [.int .i64 (m : Int),.int .i64 k,.string s] rfl rfl (cells_three_new _ _ _ _ _) (by intro u hu;simp at hu;rcases hu with rfl | rfl | rfl <;> rfl) (by unfold maxLen;omega) (by omega) (by simp;omega) ?_))
     intro v7 w5 hown hgrow _
     obtain ⟨a8,cap8,rfl,hb5,hQ5,s1,s2,hs5'⟩:=grow_pack (HBR.out.alloc hsz _) (heap_later ((Below.refl _ _).alloc (Nat.le_refl _) _) HQ.out) (HO.out.alloc _) hown hgrow
     have HP : Hid (w5.ownsRow wB.heap.size 122 3 (.slice a8 (o.length + 1) cap8) (o.length + 1) (cellsS o ++ [.int .i64 (m : Int),.int .i64 k,.string s])/\Below wB.heap.size wB w5/\w5.heap[wB.heap.size]? = some (.cells #[.slice aB Jn capB,.slice a6 o.length cap6] 117 (0,0))):=⟨hown,hb5,hQ5⟩
     clear hown hgrow hb5 hQ5 zQ1
     go_wp2_with fail
     go_meet
     have hp:=pack_end HP.out.2.1 HP.out.2.2 HP.out.1
     refine ⟨a8,cap8,?_,?_,hp.2.2⟩
     ·rw [HE8.out.2];exact hp.1
     ·rw [HE8.out.2,HE8.out.1,cellsS_snoc,HX.out];exact hp.2.1
    ·have HE8 : Hid (stEnd c x l = o):=by
      show _ = _
      rw [HE9.out,if_pos rfl]
     clear HE9 zQ1
     go_wp2_with fail
     go_meet
     refine ⟨a6,cap6,?_,?_,HBR.out⟩
     ·rw [HE8.out];exact HQ.out
     ·rw [HE8.out];exact HO.out
   case rest =>
   clear HQ HO HBR zQ1 HE9 hi hz0 hz1 hz2 hsz
   obtain ⟨a7,cap7,hQ7,hO7,hb7⟩:=hcut.out
   have hlen : (stEnd c x l).length = (un c l).length + 1:=stEnd_len HK.out HXS.out
   have HPL : Hid (∃ pp,Place (un c l) x pp/\stEnd c x l = put (un c l) pp x):=stEnd_put HK.out HXS.out
   obtain ⟨Fn,hFn⟩ : ∃ Fn,(stEnd c x l).length = Fn:=⟨_,rfl⟩
   have HFN : Hid ((stEnd c x l).length = Fn/\(un c l).length + 1 = Fn):=⟨hFn,by omega⟩
   rw [hFn] at hQ7 hO7
   have HGr : Hid (wc.heap[w.heap.size + 1]? = some (.cells nilSet 117 (0,0))):=heap_later hb7 HGB.out
   have z0 : wc.cell? ⟨wB.heap.size,0,none⟩ = some (.slice aB Jn capB):=by rw [cell_of_row _ _ _ _ _ _ hQ7];rfl
   have z1 : wc.cell? ⟨wB.heap.size,1,none⟩ = some (.slice a7 Fn cap7):=by rw [cell_of_row _ _ _ _ _ _ hQ7];rfl
   have HO7 : Hid (wc.ownsRow wB.heap.size 122 3 (.slice a7 Fn cap7) Fn (cellsS (stEnd c x l))):=hO7
   have HB9 : Hid (Below w.heap.size w wc):=hb0B.trans (hb7.mono hsB)
   have HO4 : Hid (wc.ownsRow w.heap.size 183 2 (.slice aB Jn capB) Jn (cellsE (jn [sc,c,[((m : Int),k)]]))):=by
    have h:=ownsRow_below HOB.out hb7
    rw [HJN.out] at h
    exact h
   clear hQ7 hO7 hFn hlen hb7 hcut
   rcases Nat.lt_or_ge 6 Fn with h6 | h6
   ·have g6 : (6 : Int) < (Fn : Int):=by omega
    have HMM : Hid (6 < (un c l).length + 1):=by show _ < _;rw [HFN.out.2];exact h6
    clear h6
    go_wp2_with (first
     | (refine wpList_store_row rfl 117 _ _ rfl (w.heap.size + 1) nilSet rfl rfl 117 nilSet HGr.out info38 rfl one_nilSet ?_))
    refine bodyPost_ret (results24 _ _ (w.heap.size + 1) _ _ 5 rfl rfl (setRow_heap _ _ _ _ _ _ HGr.out)) rfl ⟨below_setRow HB9.out (by omega) _,.inr (.inl ⟨HOK.out,HMM.out,rfl⟩)⟩
   ·have g6 : ¬ (6 : Int) < (Fn : Int):=by omega
    have HMM : Hid ((un c l).length + 1<=6):=by show _<=_;rw [HFN.out.2];exact h6
    rcases Nat.lt_or_ge 8 Jn with h8 | h8
    ·have g8 : (8 : Int) < (Jn : Int):=by omega
     have H8 : Hid (8 < (jn [sc,c,[((m : Int),k)]]).length):=by show _ < _;rw [HJN.out];exact h8
     clear h8 h6
     go_wp2_with (first
      | (refine wpList_store_row rfl 117 _ _ rfl (w.heap.size + 1) nilSet rfl rfl 117 nilSet HGr.out info38 rfl one_nilSet ?_))
     refine bodyPost_ret (results24 _ _ (w.heap.size + 1) _ _ 5 rfl rfl (setRow_heap _ _ _ _ _ _ HGr.out)) rfl ⟨below_setRow HB9.out (by omega) _,.inr (.inr (.inl ⟨HOK.out,HMM.out,H8.out,rfl⟩))⟩
    ·have g8 : ¬ (8 : Int) < (Jn : Int):=by omega
     have H8 : Hid ((jn [sc,c,[((m : Int),k)]]).length<=8):=by show _<=_;rw [HJN.out];exact h8
     clear h8 h6
     go_wp2_with (first
      | (refine wpList_store_row rfl 117 _ _ rfl (w.heap.size + 1) #[.slice aB Jn capB,.slice a7 Fn cap7] rfl rfl 117 nilSet HGr.out info38 rfl (one_two _ _ _ _ _ _) ?_))
     obtain ⟨pp,hpl,hput⟩:=HPL.out
     rw [HX.out] at hpl hput
     have hlp : (put (un c l) pp ⟨(m : Int),k,s⟩).length = Fn:=by rw [put_len _ _ _ hpl.1];exact HFN.out.2
     refine bodyPost_ret (results24 _ _ (w.heap.size + 1) _ _ 0 rfl rfl (setRow_heap _ _ _ _ _ _ HGr.out)) rfl ⟨below_setRow HB9.out (by omega) _,.inr (.inr (.inr ⟨HOK.out,HMM.out,H8.out,pp,hpl,_,_,rfl,?_,?_⟩))⟩
     ·rw [HJN.out]
      exact own_setRow HO4.out HGr.out (by decide)
     ·rw [hlp,<- hput]
      have h:=own_setRow (new:=#[.slice aB Jn capB,.slice a7 Fn cap7]) (own_base (B:=w.heap.size) HO7.out hsB) HGr.out (by decide)
      rw [HX.out] at h
      exact h
end Go.Proofs.YtilkdeghknjjhaaGreatDoor
