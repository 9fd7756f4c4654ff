/- A part of the proof. -/
import Derived.Test.YtilkdeghknjjhaaGreatDoorPart06
set_option maxRecDepth 20000
set_option maxHeartbeats 3200000
set_option linter.unusedVariables false
namespace Go.Proofs.YtilkdeghknjjhaaGreatDoor
open Go.RowKit Go.Sort M
variable {w w' : World}
def UpS (c : List (Int × Int)) (l : List Sb) (m : Nat) : Prop:=∀ k,k < m->Dot (sb l k).n (sb l k).c/\(sb l k).c<=cS c (sb l k).n/\(sb l k).v.size<=200/\(0 < k->cd (sb l (k - 1)) (sb l k) < 0)
def SetOK (c : List (Int × Int)) (l : List Sb) : Prop:=Clk c/\l.length<=6/\UpS c l l.length
theorem UpS.succ {c : List (Int × Int)} {l : List Sb} {m : Nat} (h : UpS c l m) (h1 : Dot (sb l m).n (sb l m).c) (h2 : (sb l m).c<=cS c (sb l m).n) (h3 : (sb l m).v.size<=200) (h4 : 0 < m->cd (sb l (m - 1)) (sb l m) < 0) : UpS c l (m + 1):=by
 intro k hk
 by_cases e : k = m
 ·subst e;exact ⟨h1,h2,h3,h4⟩
 ·exact h k (by omega)
def BoolEnd (P : Prop) (w : World) (e : Ending) (w' : World) : Prop:=∃ r,e = .returned (.bool r)/\(r = true ↔ P)/\Below w.heap.size w w'
theorem clk_us' {l : List (Int × Int)} (h : Clk l) : US l:=((clk_iff l).1 h).2
theorem BoolEnd.no {P : Prop} (h : ¬ P) (hb : Below w.heap.size w w') : BoolEnd P w (.returned (.bool false)) w':=⟨false,rfl,by simp [h],hb⟩
theorem BoolEnd.yes {P : Prop} (h : P) (hb : Below w.heap.size w w') : BoolEnd P w (.returned (.bool true)) w':=⟨true,rfl,by simp [h],hb⟩
set_option maxRecDepth 40000 in
theorem isSet_any (vc v : Value) (c : List (Int × Int)) (l : List Sb) (w : World) (hrc : Rd w vc c) (hrd : RdS w v l) :
  Calls Tryz.prog 201 #[.agg #[vc,v]] w fun e w'=>BoolEnd (SetOK c l) w e w':=by
 obtain ⟨a,cap,rfl⟩:=hrd.shape
 go_enter Tryz.func201,Tryz.ntmps201
 go_wp2_with fail
 obtain ⟨W,hW,hb,t0,t1⟩ : ∃ W,(w.alloc (.cells #[vc,.slice a l.length cap] 117)) = W/\Below w.heap.size w W /\
   W.cell? ⟨w.heap.size,0,none⟩ = some vc/\W.cell? ⟨w.heap.size,1,none⟩ = some (.slice a l.length cap) :=
  ⟨_,rfl,(Below.refl _ _).alloc (Nat.le_refl _) _,by simp [go_sem],by simp [go_sem]⟩
 rw [hW]
 refine (isClock_any vc c W (hrc.below hb)).mono ?_
 rintro e w1 ⟨r,rfl,hr,hb2⟩
 have hb1 : Below w.heap.size w w1:=hb.trans (hb2.mono hb.size)
 have e0:=cell_later hb2 t0
 have e1:=cell_later hb2 t1
 have hrd1:=hrd.below hb1
 have hrc1:=hrc.below hb1
 have hs1:=hb1.size
 clear t0 t1 hW hb hb2 hrc hrd
 cases r
 ·have HN : Hid (¬ SetOK c l):=fun h=>Bool.noConfusion (hr.2 h.1)
  clear hr hrd1 hrc1
  go_wp2
  go_ret
  exact BoolEnd.no HN.out hb1
 have hk : Clk c:=hr.1 rfl
 have HK : Hid (Clk c):=hk
 clear hr hk
 rcases Nat.lt_or_ge 6 l.length with h6 | h6
 ·have h6' : (6 : Int) < (l.length : Int):=by omega
  have HN : Hid (¬ SetOK c l):=fun h=>Nat.not_le_of_lt h6 h.2.1
  clear hrd1 hrc1
  go_wp2
  go_ret
  exact BoolEnd.no HN.out hb1
 have h6' : ¬ (6 : Int) < (l.length : Int):=by omega
 have h7 : (l.length : Int)<=6:=by omega
 obtain ⟨a',cap',hv,_,_,hA⟩:=hrd1
 obtain ⟨rfl,-,rfl⟩ : a = a'/\l.length = l.length/\cap = cap':=by simpa using hv
 clear hv
 have HE : Hid (w1.cell? ⟨w.heap.size,0,none⟩ = some vc/\w1.cell? ⟨w.heap.size,1,none⟩ = some (.slice a l.length cap)):=⟨e0,e1⟩
 have HA : Hid (0 < l.length->∃ b off,a = some ⟨b,off,none⟩/\∀ j,j < l.length->w1.cell? ⟨b,off + j * 3,none⟩ = some (.int .i64 (sb l j).n)/\w1.cell? ⟨b,off + j * 3 + 1,none⟩ = some (.int .i64 (sb l j).c)/\w1.cell? ⟨b,off + j * 3 + 2,none⟩ = some (.string (sb l j).v)):=hA
 have HC : Hid (Rd w1 vc c):=hrc1
 clear hA hrc1
 go_wp2
 clear e0 e1
 go_loopw [18] (fun q wr=>∃ k : Nat,k<=l.length/\q = .int .i64 k/\Hid (UpS c l k)/\Below w1.heap.size w1 wr)
  (fun q _=>l.length - (intOf q).toNat)
 case atStart=>exact ⟨0,Nat.zero_le _,rfl,fun k hk=>absurd hk (Nat.not_lt_zero k),Below.refl _ _⟩
 case round =>
  obtain ⟨k,hk,rfl,hu,hbr⟩:=hrel
  have hsz:=hbr.size
  have g0:=cell_later hbr HE.out.1
  have g1:=cell_later hbr HE.out.2
  by_cases hlt : k < l.length
  ·obtain ⟨b,off,rfl,hr⟩:=HA.out (by omega)
   have q1 : (k : Int) < (l.length : Int):=by omega
   have q0 : (0 : Int)<=(k : Int):=by omega
   have e0:=cell_later hbr (hr k hlt).1
   have e1:=cell_later hbr (hr k hlt).2.1
   have e2:=cell_later hbr (hr k hlt).2.2
   obtain ⟨x,hx⟩ : ∃ x,sb l k = x:=⟨_,rfl⟩
   rw [hx] at e0 e1 e2
   have HX : Hid (sb l k = x):=hx
   have HR : Hid (0 < k->wr.cell? ⟨b,off + (k - 1) * 3,none⟩ = some (.int .i64 (sb l (k - 1)).n)/\wr.cell? ⟨b,off + (k - 1) * 3 + 1,none⟩ = some (.int .i64 (sb l (k - 1)).c)/\wr.cell? ⟨b,off + (k - 1) * 3 + 2,none⟩ = some (.string (sb l (k - 1)).v)) :=
    fun _=>⟨cell_later hbr (hr (k - 1) (by omega)).1,cell_later hbr (hr (k - 1) (by omega)).2.1,cell_later hbr (hr (k - 1) (by omega)).2.2⟩
   clear hr hx
   go_wp2_with fail
   obtain ⟨W2,hW2,hbW,t0,t1,t2⟩ : ∃ W2,(wr.alloc (.cells #[.int .i64 x.n,.int .i64 x.c,.string x.v] 122)) = W2/\Below wr.heap.size wr W2 /\
     W2.cell? ⟨wr.heap.size,0,none⟩ = some (.int .i64 x.n)/\W2.cell? ⟨wr.heap.size,1,none⟩ = some (.int .i64 x.c)/\W2.cell? ⟨wr.heap.size,2,none⟩ = some (.string x.v) :=
    ⟨_,rfl,(Below.refl _ _).alloc (Nat.le_refl _) _,by simp [go_sem],by simp [go_sem],by simp [go_sem]⟩
   rw [hW2]
   have g0':=cell_later hbW g0
   have g1':=cell_later hbW g1
   have hb2 : Below w1.heap.size w1 W2:=hbr.trans (hbW.mono hsz)
   have hs2:=hbW.size
   refine (isDot_any x.n x.c W2).mono ?_
   rintro e w2 ⟨rfl,rfl⟩
   clear hW2 e0 e1 e2 g0 g1
   rcases (Decidable.em (dotB x.n x.c = true)).symm with hd | hd
   ·have HN : Hid (¬ SetOK c l):=fun h=>hd ((dotB_iff _ _).2 (HX.out ▸ (h.2.2 k hlt).1))
    have hd' : dotB x.n x.c = false:=by simpa using hd
    rw [hd']
    clear hd hd'
    go_wp2
    go_ret
    exact BoolEnd.no HN.out (hb1.trans (hb2.mono hs1))
   have HD : Hid (Dot x.n x.c):=(dotB_iff _ _).1 hd
   rw [hd]
   clear hd
   go_wp2_with fail
   refine (seen_any vc c x.n x.c w2 (HC.out.below hb2) (clk_us' HK.out) HD.out.2.2.1).mono ?_
   rintro e w3 ⟨rfl,hb3⟩
   have f0:=cell_later hb3 t0
   have f1:=cell_later hb3 t1
   have f2:=cell_later hb3 t2
   have g0'':=cell_later hb3 g0'
   have g1'':=cell_later hb3 g1'
   have hb4 : Below w1.heap.size w1 w3:=hb2.trans (hb3.mono (by omega))
   have hb5 : Below wr.heap.size wr w3:=hbW.trans (hb3.mono hs2)
   have hs4:=hb4.size
   clear t0 t1 t2 g0' g1'
   rcases (Decidable.em (x.c<=cS c x.n)).symm with hsn | hsn
   ·have HN : Hid (¬ SetOK c l):=fun h=>hsn (HX.out ▸ (h.2.2 k hlt).2.1)
    have gd : decide (x.c<=cS c x.n) = false:=by simpa using hsn
    rw [gd]
    clear gd hsn
    go_wp2
    go_ret
    exact BoolEnd.no HN.out (hb1.trans (hb4.mono hs1))
   have HSN : Hid (x.c<=cS c x.n):=hsn
   have gd : decide (x.c<=cS c x.n) = true:=by simpa using hsn
   rw [gd]
   clear gd hsn
   rcases (Decidable.em (x.v.size<=200)).symm with h200 | h200
   ·have HN : Hid (¬ SetOK c l):=fun h=>h200 (HX.out ▸ (h.2.2 k hlt).2.2.1)
    have gd : (200 : Int) < (x.v.size : Int):=by omega
    clear h200
    go_wp2
    go_ret
    exact BoolEnd.no HN.out (hb1.trans (hb4.mono hs1))
   have gv : ¬ (200 : Int) < (x.v.size : Int):=by omega
   by_cases h0 : 0 < k
   ·have k1 : (0 : Int) < (k : Int):=by omega
    have k2 : (0 : Int)<=(k : Int) - 1:=by omega
    have k3 : (k : Int) - 1 < (l.length : Int):=by omega
    have k4 : ((k : Int) - 1).toNat = k - 1:=by omega
    have k6 : (1 : Int)<=(k : Int):=by omega
    have k5 : IntKind.i64.wrap ((k : Int) - 1) = (k : Int) - 1:=by rw [IntKind.wrap_i64];omega
    have gd : decide ((0 : Int) < (k : Int)) = true:=by simp;omega
    have p0:=cell_regrown (cell_later hb5 (HR.out h0).1)
    have p1:=cell_regrown (cell_later hb5 (HR.out h0).2.1)
    have p2:=cell_regrown (cell_later hb5 (HR.out h0).2.2)
    have f0r:=cell_regrown f0
    have f1r:=cell_regrown f1
    have f2r:=cell_regrown f2
    have g1r:=cell_regrown g1''
    have HCC : Hid (∀ d os,Calls Tryz.prog 233 #[.agg #[.int .i64 (sb l (k - 1)).n,.int .i64 (sb l (k - 1)).c,.string (sb l (k - 1)).v],.agg #[.int .i64 x.n,.int .i64 x.c,.string x.v]] (grow (redrawn w3 d) os) fun e w''=>e = .returned (.int .i64 (cd (sb l (k - 1)) x))/\∃ p : Regrown,w'' = grow (redrawn w3 p.d) p.os) :=
     fun d os=>Calls.regrown_of (compareDots_any _ _ _ _ _ _ _)
    obtain ⟨y,hy⟩ : ∃ y,sb l (k - 1) = y:=⟨_,rfl⟩
    have HY : Hid (sb l (k - 1) = y):=hy
    rw [hy] at p0 p1 p2 HCC
    obtain ⟨r,hr2⟩ : ∃ r,cd y x = r:=⟨_,rfl⟩
    have HRR : Hid (cd y x = r):=hr2
    rw [hr2] at HCC
    clear hr2 hy
    go_wp2_with fail
    refine wp_region_quiet_below (by kernel_rfl) (by kernel_rfl) ?_
    repeat (quiet_step (first | (go_at_call 233;exact HCC.out _ _)))
    refine wpQuiet_nil ?_
    intro _ hw'
    obtain ⟨⟨dq,osq⟩,hw''⟩:=hw'
    subst hw''
    by_cases hneg : r < 0
    ·have gn : decide (0<=r) = false:=by simp;omega
     go_wp2
     go_roundw
     case rel=>exact ⟨k + 1,by omega,by go_num,hu.out.succ (HX.out.symm ▸ HD.out) (HX.out.symm ▸ HSN.out) (HX.out.symm ▸ h200) (fun _=>by rw [HX.out,HY.out,HRR.out];exact hneg),hb4.trans ((below_regrown w3 dq osq).mono hs4)⟩
     case measure=>simp [intOf];omega
    ·have gn : decide (0<=r) = true:=by simp;omega
     have HN : Hid (¬ SetOK c l):=fun h=>hneg (by have:=(h.2.2 k hlt).2.2.2 h0;rw [HX.out,HY.out,HRR.out] at this;exact this)
     go_wp2
     go_ret
     exact BoolEnd.no HN.out (hb1.trans ((hb4.trans ((below_regrown w3 dq osq).mono hs4)).mono hs1))
   ·have gd : decide ((0 : Int) < (k : Int)) = false:=by simp;omega
    go_wp2_with fail
    go_quiet (fail)
    go_wp2
    go_roundw
    case rel=>exact ⟨k + 1,by omega,by go_num,hu.out.succ (HX.out.symm ▸ HD.out) (HX.out.symm ▸ HSN.out) (HX.out.symm ▸ h200) (fun h=>absurd h h0),(by repeat (first | exact hb4 | refine below_drewN ?_ _ | refine Below.drew ?_))⟩
    case measure=>simp [intOf];omega
  ·have he : k = l.length:=by omega
   subst he
   go_wp2
   go_ret
   exact BoolEnd.yes ⟨HK.out,h6,hu.out⟩ (hb1.trans (hbr.mono hs1))
end Go.Proofs.YtilkdeghknjjhaaGreatDoor
namespace Go.Proofs.YtilkdeghknjjhaaGreatDoor
open Go.RowKit M
variable {w : World} {n size k : Nat} {v : Value} {xs : List Value}
theorem info38 : (Tryz.prog.info? 117).map (·.size) = some 2:=by kernel_rfl
theorem results27 (tmps : Array Value) (w : World) (g : Nat) (v1 v2 : Value) (n : Int) (h2 : tmps.getD 4 undef = .pointer (some ⟨g,0,none⟩)) (h3 : tmps.getD 5 undef = .int .i64 n) (hg : w.heap[g]? = some (.cells #[v1,v2] 117 (0,0))) :
  (results Tryz.f154 tmps).run Tryz.prog w = .ok (.tuple #[.agg #[v1,v2],.int .i64 n]) w:=by
 have hl:=run_loadVar_row (P:=Tryz.prog) w g 117 117 #[v1,v2] (0,0) _ hg Tryz.underlying117 rfl info38
 have h2' : tmps[4]?.getD undef = .pointer (some ⟨g,0,none⟩):=by simpa using h2
 have h3' : tmps[5]?.getD undef = .int .i64 n:=by simpa using h3
 simp [results,Tryz.results154,h2',h3',asAddr,hl]
def nilSet : Array Value:=#[.slice none 0 0,.slice none 0 0]
theorem one_two (a : Option Addr) (n c : Nat) (a' : Option Addr) (n' c' : Nat) : (#[Value.slice a n c,Value.slice a' n' c'] : Array Value).all (·.oneCell') = true:=by simp [Value.oneCell']
theorem one_nilSet : nilSet.all (·.oneCell') = true:=one_two _ _ _ _ _ _
theorem own_shape {B : Nat} {e : TypeId} (h : w.ownsRow B e size v n xs) : ∃ a cap,v = .slice a n cap:=by
 rcases h.2 with ⟨h1,h2⟩ | ⟨g,cap,cur,h1,_⟩
 ·exact ⟨none,0,by rw [h1,h2]⟩
 ·exact ⟨_,_,h1⟩
theorem heap_later {w' : World} {o : Obj} (hb : Below w.heap.size w w') (h : w.heap[k]? = some o) : w'.heap[k]? = some o :=
 (hb.block k (Array.getElem?_eq_some_iff.1 h).1).trans h
theorem own_setRow {B : Nat} {e t : TypeId} {old new : Array Value} (h : w.ownsRow B e size v n xs) (hk : w.heap[k]? = some (.cells old t (0,0))) (hne : e ≠ t) : (w.setRow k new).ownsRow B e size v n xs:=by
 refine ⟨h.1,?_⟩
 rcases h.2 with hn | ⟨g,cap,cur,rfl,h1,h2,rest⟩
 ·exact .inl hn
 ·refine .inr ⟨g,cap,cur,rfl,h1,?_,rest⟩
  rw [setRow_other w k g new (fun hh=>by subst hh;rw [hk] at h2;simp at h2;exact hne h2.2.symm)]
  exact h2
def setErr (n : Int) : Ending:=.returned (.tuple #[.agg #[.slice none 0 0,.slice none 0 0],.int .i64 n])
def setOut (w : World) (c : List (Int × Int)) (l : List Sb) (e : Ending) (w' : World) : Prop :=
 ∃ v1 v2,e = .returned (.tuple #[.agg #[v1,v2],.int .i64 0])/\w'.ownsRow w.heap.size 183 2 v1 c.length (cellsE c)/\w'.ownsRow w.heap.size 122 3 v2 l.length (cellsS l)
def DisEnd (w : World) (sc c : List (Int × Int)) (l : List Sb) (e : Ending) (w' : World) : Prop :=
 Below w.heap.size w w' /\
 ((¬ (SetOK sc l/\Clk c)/\e = setErr 1) \/
  (SetOK sc l/\Clk c/\8 < (jn [sc,c]).length/\e = setErr 5) \/
  (SetOK sc l/\Clk c/\(jn [sc,c]).length<=8/\setOut w (jn [sc,c]) (un c l) e w'))
set_option maxRecDepth 40000 in
theorem Discard_any (vs v vc : Value) (sc c : List (Int × Int)) (l : List Sb) (w : World) (hrs : Rd w vs sc) (hrd : RdS w v l) (hrc : Rd w vc c) :
  Calls Tryz.prog 154 #[.agg #[vs,v],vc] w fun e w'=>DisEnd w sc c l e w':=by
 obtain ⟨ps,caps,rfl⟩:=hrs.shape
 obtain ⟨a,cap,rfl⟩:=hrd.shape
 obtain ⟨ac,capc,rfl⟩:=hrc.shape
 go_enter Tryz.func154,Tryz.ntmps154
 go_wp2_with fail
 obtain ⟨W,hW,hb,t0,t1,rg⟩ : ∃ W,((w.alloc (.cells #[.slice ps sc.length caps,.slice a l.length cap] 117)).alloc (.cells #[.slice none 0 0,.slice none 0 0] 117)) = W/\Below w.heap.size w W /\
   W.cell? ⟨w.heap.size,0,none⟩ = some (.slice ps sc.length caps)/\W.cell? ⟨w.heap.size,1,none⟩ = some (.slice a l.length cap) /\
   W.heap[w.heap.size + 1]? = some (.cells nilSet 117 (0,0)) :=
  ⟨_,rfl,((Below.refl _ _).alloc (Nat.le_refl _) _).alloc (by simp) _,by simp [go_sem],by simp [go_sem],heap_alloc2_new w _ _⟩
 rw [hW]
 refine (isSet_any _ _ sc l W (hrs.below hb) (hrd.below hb)).mono ?_
 rintro e w1 ⟨r,rfl,hr,hb2⟩
 have hb1 : Below w.heap.size w w1:=hb.trans (hb2.mono hb.size)
 have e0:=cell_later hb2 t0
 have e1:=cell_later hb2 t1
 have HG : Hid (w1.heap[w.heap.size + 1]? = some (.cells nilSet 117 (0,0))):=heap_later hb2 rg
 have hrd1:=hrd.below hb1
 have hrs1:=hrs.below hb1
 have hrc1:=hrc.below hb1
 have hs1:=hb1.size
 clear t0 t1 rg hW hb hb2 hrc hrd hrs
 cases r
 ·have HN : Hid (¬ (SetOK sc l/\Clk c)):=fun h=>Bool.noConfusion (hr.2 h.1)
  clear hr hrd1 hrc1 hrs1
  go_wp2_with (first
   | (refine wpList_store_row rfl 117 _ _ rfl (w.heap.size + 1) nilSet rfl rfl 117 nilSet HG.out info38 rfl one_nilSet ?_))
  refine bodyPost_ret (results27 _ _ (w.heap.size + 1) _ _ 1 rfl rfl (setRow_heap _ _ _ _ _ _ HG.out)) rfl ⟨below_setRow hb1 (by omega) _,.inl ⟨HN.out,rfl⟩⟩
 have hk : SetOK sc l:=hr.1 rfl
 have HK : Hid (SetOK sc l):=hk
 clear hr hk
 go_wp2_with fail
 refine (isClock_any _ c w1 hrc1).mono ?_
 rintro e w2 ⟨r,rfl,hr,hb2⟩
 have hb3 : Below w.heap.size w w2:=hb1.trans (hb2.mono hs1)
 have f0:=cell_later hb2 e0
 have f1:=cell_later hb2 e1
 have HG2 : Hid (w2.heap[w.heap.size + 1]? = some (.cells nilSet 117 (0,0))):=heap_later hb2 HG.out
 have hrd2:=hrd1.below hb2
 have hrs2:=hrs1.below hb2
 have hrc2:=hrc1.below hb2
 have hs2:=hb3.size
 clear hb2 hrd1 hrs1 hrc1 HG e0 e1 hs1 hb1
 cases r
 ·have HN : Hid (¬ (SetOK sc l/\Clk c)):=fun h=>Bool.noConfusion (hr.2 h.2)
  clear hr hrd2 hrc2 hrs2
  go_wp2_with (first
   | (refine wpList_store_row rfl 117 _ _ rfl (w.heap.size + 1) nilSet rfl rfl 117 nilSet HG2.out info38 rfl one_nilSet ?_))
  refine bodyPost_ret (results27 _ _ (w.heap.size + 1) _ _ 1 rfl rfl (setRow_heap _ _ _ _ _ _ HG2.out)) rfl ⟨below_setRow hb3 (by omega) _,.inl ⟨HN.out,rfl⟩⟩
 have hk : Clk c:=hr.1 rfl
 have HK2 : Hid (Clk c):=hk
 clear hr hk
 go_wp2_with fail
 have hba : Below w2.heap.size w2 (w2.alloc (.cells #[.slice ps sc.length caps,.slice ac c.length capc] 109)):=(Below.refl _ _).alloc (Nat.le_refl _) _
 refine (join_any w2.heap.size 2 [sc,c] _ rfl (by decide) (fun j hj=>?_)).mono ?_
 ·match j,hj with
  | 0,_=>exact ⟨_,by simp [go_sem],hrs2.below hba,HK.out.1.2⟩
  | 1,_=>exact ⟨_,by simp [go_sem],hrc2.below hba,HK2.out.2⟩
 rintro e w3 ⟨hb4,⟨h8,rfl⟩ | ⟨h8,v3,rfl,ho⟩⟩
 ·have hb5:=hb3.trans ((hba.trans (hb4.mono (by simp))).mono hs2)
  have HG3 : Hid (w3.heap[w.heap.size + 1]? = some (.cells nilSet 117 (0,0))):=heap_later (hba.trans (hb4.mono (by simp))) HG2.out
  have H8 : Hid (8 < (jn [sc,c]).length):=h8
  clear h8 hba hb4 hrs2 hrc2 hrd2 HG2
  go_wp2_with (first
   | (refine wpList_store_row rfl 117 _ _ rfl (w.heap.size + 1) nilSet rfl rfl 117 nilSet HG3.out info38 rfl one_nilSet ?_))
  refine bodyPost_ret (results27 _ _ (w.heap.size + 1) _ _ 5 rfl rfl (setRow_heap _ _ _ _ _ _ HG3.out)) rfl ⟨below_setRow hb5 (by omega) _,.inr (.inl ⟨HK.out,HK2.out,H8.out,rfl⟩)⟩
 ·have hb6:=hba.trans (hb4.mono (by simp))
  have hb5:=hb3.trans (hb6.mono hs2)
  have HG3 : Hid (w3.heap[w.heap.size + 1]? = some (.cells nilSet 117 (0,0))):=heap_later hb6 HG2.out
  have H8 : Hid ((jn [sc,c]).length<=8):=h8
  have g0:=cell_later hb6 f0
  have g1:=cell_later hb6 f1
  have hrd3:=hrd2.below hb6
  have hrc3:=hrc2.below hb6
  have hs3:=hb5.size
  have ho2:=own_base (B:=w.heap.size) ho (by simp;omega)
  obtain ⟨a3,cap3,rfl⟩:=own_shape ho2
  have HO : Hid (w3.ownsRow w.heap.size 183 2 (.slice a3 (jn [sc,c]).length cap3) (jn [sc,c]).length (cellsE (jn [sc,c]))):=ho2
  clear h8 hba hb4 hrs2 hrc2 hrd2 HG2 ho ho2 hb6 f0 f1
  go_wp2_with fail
  refine (unseen_any _ _ l c w3 hrd3 hrc3 (clk_us' HK2.out) (by have:=HK.out.2.1;omega) (fun x hx=>by
   obtain ⟨i,hi,rfl⟩:=List.getElem_of_mem hx
   have:=(HK.out.2.2 i hi).1.2.2.1
   rw [sb_get l i hi] at this
   exact this)).mono ?_
  rintro e w4 ⟨v4,rfl,ho4,hb7⟩
  have hb8:=hb5.trans (hb7.mono hs3)
  have HG4 : Hid (w4.heap[w.heap.size + 1]? = some (.cells nilSet 117 (0,0))):=heap_later hb7 HG3.out
  have ho5:=ownsRow_below HO.out hb7
  have ho6:=own_base (B:=w.heap.size) ho4 hs3
  obtain ⟨a4,cap4,rfl⟩:=own_shape ho6
  have HO5 : Hid (w4.ownsRow w.heap.size 183 2 (.slice a3 (jn [sc,c]).length cap3) (jn [sc,c]).length (cellsE (jn [sc,c]))):=ho5
  have HO6 : Hid (w4.ownsRow w.heap.size 122 3 (.slice a4 (un c l).length cap4) (un c l).length (cellsS (un c l))):=ho6
  clear hb7 ho4 ho5 ho6 g0 g1 hrd3 hrc3
  go_wp2_with (first
   | (refine wpList_store_row rfl 117 _ _ rfl (w.heap.size + 1) #[.slice a3 (jn [sc,c]).length cap3,.slice a4 (un c l).length cap4] rfl rfl 117 nilSet HG4.out info38 rfl (one_two _ _ _ _ _ _) ?_))
  refine bodyPost_ret (results27 _ _ (w.heap.size + 1) _ _ 0 rfl rfl (setRow_heap _ _ _ _ _ _ HG4.out)) rfl ⟨below_setRow hb8 (by omega) _,.inr (.inr ⟨HK.out,HK2.out,H8.out,_,_,rfl,?_,?_⟩)⟩
  ·exact own_setRow HO5.out HG4.out (by decide)
  ·exact own_setRow HO6.out HG4.out (by decide)
end Go.Proofs.YtilkdeghknjjhaaGreatDoor
