/- A part of the proof. -/
import Derived.Test.YtilkdeghknjjhaaGreatDoorPart08
set_option maxRecDepth 20000
set_option maxHeartbeats 3200000
set_option linter.unusedVariables false
namespace Go.Proofs.YtilkdeghknjjhaaGreatDoor
open Go.RowKit M
theorem results23 (tmps : Array Value) (w : World) (g : Nat) (v1 v2 : Value) (n : Int) (h2 : tmps.getD 10 undef = .pointer (some ⟨g,0,none⟩)) (h3 : tmps.getD 11 undef = .int .i64 n) (hg : w.heap[g]? = some (.cells #[v1,v2] 117 (0,0))) :
  (results Tryz.f155 tmps).run Tryz.prog w = .ok (.tuple #[.agg #[v1,v2],.int .i64 n]) w:=by
 have hl:=run_loadVar_row (P:=Tryz.prog) w g 117 117 #[v1,v2] (0,0) _ hg Tryz.underlying117 rfl info38
 have h2' : tmps[10]?.getD undef = .pointer (some ⟨g,0,none⟩):=by simpa using h2
 have h3' : tmps[11]?.getD undef = .int .i64 n:=by simpa using h3
 simp [results,Tryz.results155,h2',h3',asAddr,hl]
theorem Rd.one (w : World) (n k : Int) (g : Nat) (h0 : w.cell? ⟨g,0,none⟩ = some (.int .i64 n)) (h1 : w.cell? ⟨g,1,none⟩ = some (.int .i64 k)) : Rd w (.slice (some ⟨g,0,none⟩) 1 1) [(n,k)]:=by
 refine ⟨_,1,rfl,by simp,by decide,fun _=>⟨g,0,rfl,fun j hj=>?_⟩⟩
 have : j = 0:=by simpa using hj
 subst this
 exact ⟨by simpa [ent] using h0,by simpa [ent] using h1⟩
theorem up_one {n k : Int} (h : Dot n k) : Up [(n,k)] 1:=by
 intro j hj
 have : j = 0:=by omega
 subst this
 exact ⟨h,fun h=>by omega⟩
def UpOK (sc c : List (Int × Int)) (l : List Sb) (n k : Int) (s : ByteArray) : Prop:=SetOK sc l/\Clk c/\Dot n k/\s.size<=200/\¬ k<=cS sc n/\¬ k<=cS c n
def UpdEnd (w : World) (sc c : List (Int × Int)) (l : List Sb) (n k : Int) (s : ByteArray) (e : Ending) (w' : World) : Prop :=
 Below w.heap.size w w' /\
 ((¬ UpOK sc c l n k s/\e = setErr 1) \/
  (UpOK sc c l n k s/\6 < (un c l).length + 1/\e = setErr 5) \/
  (UpOK sc c l n k s/\(un c l).length + 1<=6/\8 < (jn [sc,c,[(n,k)]]).length/\e = setErr 5) \/
  (UpOK sc c l n k s/\(un c l).length + 1<=6/\(jn [sc,c,[(n,k)]]).length<=8/\∃ p,Place (un c l) ⟨n,k,s⟩ p/\setOut w (jn [sc,c,[(n,k)]]) (put (un c l) p ⟨n,k,s⟩) e w'))
set_option maxRecDepth 40000 in
theorem Update_any (vs v vc : Value) (sc c : List (Int × Int)) (l : List Sb) (n k : Int) (s : ByteArray) (w : World) (hrs : Rd w vs sc) (hrd : RdS w v l) (hrc : Rd w vc c) :
  Calls Tryz.prog 155 #[.agg #[vs,v],vc,.int .i64 n,.int .i64 k,.string s] w fun e w'=>UpdEnd w sc c l n k s e w':=by
 obtain ⟨ps,caps,rfl⟩:=hrs.shape
 obtain ⟨a,cap,rfl⟩:=hrd.shape
 obtain ⟨ac,capc,rfl⟩:=hrc.shape
 go_enter Tryz.func155,Tryz.ntmps155
 go_wp2_with fail
 obtain ⟨W,hW,hb,t0,t1,rg⟩ : ∃ W,((w.alloc (.cells #[.slice ps sc.length caps,.slice a l.length cap] 117)).alloc (.cells #[.slice none 0 0,.slice none 0 0] 117)) = W/\Below w.heap.size w W /\
   W.cell? ⟨w.heap.size,0,none⟩ = some (.slice ps sc.length caps)/\W.cell? ⟨w.heap.size,1,none⟩ = some (.slice a l.length cap) /\
   W.heap[w.heap.size + 1]? = some (.cells nilSet 117 (0,0)) :=
  ⟨_,rfl,((Below.refl _ _).alloc (Nat.le_refl _) _).alloc (by simp) _,by simp [go_sem],by simp [go_sem],heap_alloc2_new w _ _⟩
 rw [hW]
 refine (isSet_any _ _ sc l W (hrs.below hb) (hrd.below hb)).mono ?_
 rintro e w1 ⟨r,rfl,hr,hb2⟩
 have hb1 : Below w.heap.size w w1:=hb.trans (hb2.mono hb.size)
 have e0:=cell_later hb2 t0
 have e1:=cell_later hb2 t1
 have HG : Hid (w1.heap[w.heap.size + 1]? = some (.cells nilSet 117 (0,0))):=heap_later hb2 rg
 have hrd1:=hrd.below hb1
 have hrs1:=hrs.below hb1
 have hrc1:=hrc.below hb1
 have hs1:=hb1.size
 clear t0 t1 rg hW hb hb2 hrc hrd hrs
 cases r
 ·have HN : Hid (¬ UpOK sc c l n k s):=fun h=>Bool.noConfusion (hr.2 h.1)
  clear hr hrd1 hrc1 hrs1
  go_wp2_with (first
   | (refine wpList_store_row rfl 117 _ _ rfl (w.heap.size + 1) nilSet rfl rfl 117 nilSet HG.out info38 rfl one_nilSet ?_))
  refine bodyPost_ret (results23 _ _ (w.heap.size + 1) _ _ 1 rfl rfl (setRow_heap _ _ _ _ _ _ HG.out)) rfl ⟨below_setRow hb1 (by omega) _,.inl ⟨HN.out,rfl⟩⟩
 have hk : SetOK sc l:=hr.1 rfl
 have HK : Hid (SetOK sc l):=hk
 clear hr hk
 go_wp2_with fail
 refine (isClock_any _ c w1 hrc1).mono ?_
 rintro e w2 ⟨r,rfl,hr,hb2⟩
 have hb3 : Below w.heap.size w w2:=hb1.trans (hb2.mono hs1)
 have f0:=cell_later hb2 e0
 have f1:=cell_later hb2 e1
 have HG2 : Hid (w2.heap[w.heap.size + 1]? = some (.cells nilSet 117 (0,0))):=heap_later hb2 HG.out
 have hrd2:=hrd1.below hb2
 have hrs2:=hrs1.below hb2
 have hrc2:=hrc1.below hb2
 have hs2:=hb3.size
 clear hb2 hrd1 hrs1 hrc1 HG e0 e1 hs1 hb1
 cases r
 ·have HN : Hid (¬ UpOK sc c l n k s):=fun h=>Bool.noConfusion (hr.2 h.2.1)
  clear hr hrd2 hrc2 hrs2
  go_wp2_with (first
   | (refine wpList_store_row rfl 117 _ _ rfl (w.heap.size + 1) nilSet rfl rfl 117 nilSet HG2.out info38 rfl one_nilSet ?_))
  refine bodyPost_ret (results23 _ _ (w.heap.size + 1) _ _ 1 rfl rfl (setRow_heap _ _ _ _ _ _ HG2.out)) rfl ⟨below_setRow hb3 (by omega) _,.inl ⟨HN.out,rfl⟩⟩
 have hk : Clk c:=hr.1 rfl
 have HK2 : Hid (Clk c):=hk
 clear hr hk
 go_wp2_with fail
 refine (isDot_any n k w2).mono ?_
 rintro e w2 ⟨rfl,rfl⟩
 rcases (Decidable.em (dotB n k = true)).symm with hd | hd
 ·have HN : Hid (¬ UpOK sc c l n k s):=fun h=>hd ((dotB_iff _ _).2 h.2.2.1)
  have hd' : dotB n k = false:=by simpa using hd
  rw [hd']
  clear hd hd' hrd2 hrc2 hrs2
  go_wp2_with (first
   | (refine wpList_store_row rfl 117 _ _ rfl (w.heap.size + 1) nilSet rfl rfl 117 nilSet HG2.out info38 rfl one_nilSet ?_))
  refine bodyPost_ret (results23 _ _ (w.heap.size + 1) _ _ 1 rfl rfl (setRow_heap _ _ _ _ _ _ HG2.out)) rfl ⟨below_setRow hb3 (by omega) _,.inl ⟨HN.out,rfl⟩⟩
 have HD : Hid (Dot n k):=(dotB_iff _ _).1 hd
 rw [hd]
 clear hd
 rcases (Decidable.em (s.size<=200)).symm with h200 | h200
 ·have HN : Hid (¬ UpOK sc c l n k s):=fun h=>h200 h.2.2.2.1
  have gd : (200 : Int) < (s.size : Int):=by omega
  clear h200 hrd2 hrc2 hrs2
  go_wp2_with (first
   | (refine wpList_store_row rfl 117 _ _ rfl (w.heap.size + 1) nilSet rfl rfl 117 nilSet HG2.out info38 rfl one_nilSet ?_))
  refine bodyPost_ret (results23 _ _ (w.heap.size + 1) _ _ 1 rfl rfl (setRow_heap _ _ _ _ _ _ HG2.out)) rfl ⟨below_setRow hb3 (by omega) _,.inl ⟨HN.out,rfl⟩⟩
 have gv : ¬ (200 : Int) < (s.size : Int):=by omega
 go_wp2_with fail
 refine (seen_any _ sc n k w2 hrs2 (clk_us' HK.out.1) HD.out.2.2.1).mono ?_
 rintro e w3 ⟨rfl,hb4⟩
 have hb5 : Below w.heap.size w w3:=hb3.trans (hb4.mono hs2)
 have g0:=cell_later hb4 f0
 have g1:=cell_later hb4 f1
 have HG3 : Hid (w3.heap[w.heap.size + 1]? = some (.cells nilSet 117 (0,0))):=heap_later hb4 HG2.out
 have hrd3:=hrd2.below hb4
 have hrs3:=hrs2.below hb4
 have hrc3:=hrc2.below hb4
 have hs3:=hb5.size
 clear hb4 hrd2 hrs2 hrc2 HG2 f0 f1 hs2 hb3
 rcases Decidable.em (k<=cS sc n) with hsn | hsn
 ·have HN : Hid (¬ UpOK sc c l n k s):=fun h=>h.2.2.2.2.1 hsn
  have gd : decide (k<=cS sc n) = true:=by simpa using hsn
  rw [gd]
  clear gd hsn hrd3 hrs3 hrc3
  go_wp2_with (first
   | (refine wpList_store_row rfl 117 _ _ rfl (w.heap.size + 1) nilSet rfl rfl 117 nilSet HG3.out info38 rfl one_nilSet ?_))
  refine bodyPost_ret (results23 _ _ (w.heap.size + 1) _ _ 1 rfl rfl (setRow_heap _ _ _ _ _ _ HG3.out)) rfl ⟨below_setRow hb5 (by omega) _,.inl ⟨HN.out,rfl⟩⟩
 have HSN : Hid (¬ k<=cS sc n):=hsn
 have gd : decide (k<=cS sc n) = false:=by simpa using hsn
 rw [gd]
 clear gd hsn
 go_wp2_with fail
 refine (seen_any _ c n k w3 hrc3 (clk_us' HK2.out) HD.out.2.2.1).mono ?_
 rintro e w4 ⟨rfl,hb4⟩
 have hb6 : Below w.heap.size w w4:=hb5.trans (hb4.mono hs3)
 have f0:=cell_later hb4 g0
 have f1:=cell_later hb4 g1
 have HG4 : Hid (w4.heap[w.heap.size + 1]? = some (.cells nilSet 117 (0,0))):=heap_later hb4 HG3.out
 have hrd4:=hrd3.below hb4
 have hrs4:=hrs3.below hb4
 have hrc4:=hrc3.below hb4
 have hs4:=hb6.size
 clear hb4 hrd3 hrs3 hrc3 HG3 g0 g1 hs3 hb5
 rcases Decidable.em (k<=cS c n) with hsn | hsn
 ·have HN : Hid (¬ UpOK sc c l n k s):=fun h=>h.2.2.2.2.2 hsn
  have gd : decide (k<=cS c n) = true:=by simpa using hsn
  rw [gd]
  clear gd hsn hrd4 hrs4 hrc4
  go_wp2_with (first
   | (refine wpList_store_row rfl 117 _ _ rfl (w.heap.size + 1) nilSet rfl rfl 117 nilSet HG4.out info38 rfl one_nilSet ?_))
  refine bodyPost_ret (results23 _ _ (w.heap.size + 1) _ _ 1 rfl rfl (setRow_heap _ _ _ _ _ _ HG4.out)) rfl ⟨below_setRow hb6 (by omega) _,.inl ⟨HN.out,rfl⟩⟩
 have HOK : Hid (UpOK sc c l n k s):=⟨HK.out,HK2.out,HD.out,h200,by have:=HSN.out;omega,hsn⟩
 have gd : decide (k<=cS c n) = false:=by simpa using hsn
 rw [gd]
 clear gd hsn HSN
 go_wp2_with fail
 refine (unseen_any _ _ l c w4 hrd4 hrc4 (clk_us' HK2.out) (by have:=HK.out.2.1;omega) (fun x hx=>by
  obtain ⟨i,hi,rfl⟩:=List.getElem_of_mem hx
  have:=(HK.out.2.2 i hi).1.2.2.1
  rw [sb_get l i hi] at this
  exact this)).mono ?_
 rintro e w5 ⟨v5,rfl,ho,hb4⟩
 have hs45:=hb4.size
 have hu6 : (un c l).length<=6:=by
  have h1:=un_len c l l.length
  rw [List.take_length] at h1
  have:=HK.out.2.1
  omega
 go_wp2_with fail
 refine (insert_any w4.heap.size v5 (un c l) ⟨n,k,s⟩ w5 hs45 ho (by omega)).mono ?_
 rintro e w6 ⟨p,v6,rfl,hp,ho6,hb5⟩
 have hb46 : Below w4.heap.size w4 w6:=hb4.trans hb5
 have hb7 : Below w.heap.size w w6:=hb6.trans (hb46.mono hs4)
 have g0:=cell_later hb46 f0
 have HG6 : Hid (w6.heap[w.heap.size + 1]? = some (.cells nilSet 117 (0,0))):=heap_later hb46 HG4.out
 have hrs6:=hrs4.below hb46
 have hrc6:=hrc4.below hb46
 have hs6:=hb7.size
 have ho7:=own_base (B:=w.heap.size) ho6 hs4
 obtain ⟨a6,cap6,rfl⟩:=own_shape ho7
 have HP : Hid (Place (un c l) ⟨n,k,s⟩ p):=hp
 have HO : Hid (w6.ownsRow w.heap.size 122 3 (.slice a6 ((un c l).length + 1) cap6) ((un c l).length + 1) (cellsS (put (un c l) p ⟨n,k,s⟩))):=ho7
 have hpl : (put (un c l) p ⟨n,k,s⟩).length = (un c l).length + 1:=put_len _ _ _ hp.1
 have HL : Hid ((put (un c l) p ⟨n,k,s⟩).length = (un c l).length + 1):=hpl
 obtain ⟨m,hm⟩ : ∃ m,(un c l).length = m:=⟨_,rfl⟩
 have HM : Hid ((un c l).length = m):=hm
 rw [hm] at HO HL hu6
 clear hb4 hrd4 hrs4 hrc4 HG4 f0 f1 hs4 hb6 ho hs45 hb46 hb5 ho6 ho7 hp hpl
 rw [hm]
 clear hm
 rcases Nat.lt_or_ge 5 m with h6 | h6
 ·have h6' : (6 : Int) < (m : Int) + 1:=by omega
  have HMM : Hid (6 < (un c l).length + 1):=by show _ < _;rw [HM.out];omega
  clear hrs6 hrc6
  go_wp2_with (first
   | (refine wpList_store_row rfl 117 _ _ rfl (w.heap.size + 1) nilSet rfl rfl 117 nilSet HG6.out info38 rfl one_nilSet ?_))
  refine bodyPost_ret (results23 _ _ (w.heap.size + 1) _ _ 5 rfl rfl (setRow_heap _ _ _ _ _ _ HG6.out)) rfl ⟨below_setRow hb7 (by omega) _,.inr (.inl ⟨HOK.out,HMM.out,rfl⟩)⟩
 have h6' : ¬ (6 : Int) < (m : Int) + 1:=by omega
 have HMM : Hid ((un c l).length + 1<=6):=by show _<=_;rw [HM.out];omega
 go_wp2_with fail
 obtain ⟨W7,hW7,hba,d0,d1,d2,d3,d4⟩ : ∃ W7,((w6.alloc (.cells #[.int .i64 n,.int .i64 k] 183)).alloc (.cells #[.slice ps sc.length caps,.slice ac c.length capc,.slice (some ⟨w6.heap.size,0,none⟩) 1 1] 109)) = W7/\Below w6.heap.size w6 W7 /\
   W7.cell? ⟨w6.heap.size,0,none⟩ = some (.int .i64 n)/\W7.cell? ⟨w6.heap.size,1,none⟩ = some (.int .i64 k) /\
   W7.cell? ⟨w6.heap.size + 1,0,none⟩ = some (.slice ps sc.length caps)/\W7.cell? ⟨w6.heap.size + 1,1,none⟩ = some (.slice ac c.length capc)/\W7.cell? ⟨w6.heap.size + 1,2,none⟩ = some (.slice (some ⟨w6.heap.size,0,none⟩) 1 1) :=
  ⟨_,rfl,((Below.refl _ _).alloc (Nat.le_refl _) _).alloc (by simp) _,by simp [go_sem],by simp [go_sem],by simp [go_sem],by simp [go_sem],by simp [go_sem]⟩
 rw [hW7]
 refine (join_any (w6.heap.size + 1) 3 [sc,c,[(n,k)]] W7 rfl (by decide) (fun j hj=>?_)).mono ?_
 ·match j,hj with
  | 0,_=>exact ⟨_,d2,hrs6.below hba,HK.out.1.2⟩
  | 1,_=>exact ⟨_,d3,hrc6.below hba,HK2.out.2⟩
  | 2,_=>exact ⟨_,d4,Rd.one _ _ _ _ d0 d1,up_one HD.out⟩
 rintro e w8 ⟨hb8,hcase⟩
 have hb68 : Below w6.heap.size w6 w8:=hba.trans (hb8.mono hba.size)
 have hb9 : Below w.heap.size w w8:=hb7.trans (hb68.mono hs6)
 have HG8 : Hid (w8.heap[w.heap.size + 1]? = some (.cells nilSet 117 (0,0))):=heap_later hb68 HG6.out
 have HO8 : Hid (w8.ownsRow w.heap.size 122 3 (.slice a6 (m + 1) cap6) (m + 1) (cellsS (put (un c l) p ⟨n,k,s⟩))):=ownsRow_below HO.out hb68
 have hs67 : w.heap.size<=W7.heap.size:=Nat.le_trans hs6 hba.size
 clear hb8 hba hb68 hb7 hrs6 hrc6 HG6 HO hW7 d0 d1 d2 d3 d4 g0
 rcases hcase with ⟨h8,rfl⟩ | ⟨h8,v8,rfl,ho⟩
 ·have H8 : Hid (8 < (jn [sc,c,[(n,k)]]).length):=h8
  clear h8
  go_wp2_with (first
   | (refine wpList_store_row rfl 117 _ _ rfl (w.heap.size + 1) nilSet rfl rfl 117 nilSet HG8.out info38 rfl one_nilSet ?_))
  refine bodyPost_ret (results23 _ _ (w.heap.size + 1) _ _ 5 rfl rfl (setRow_heap _ _ _ _ _ _ HG8.out)) rfl ⟨below_setRow hb9 (by omega) _,.inr (.inr (.inl ⟨HOK.out,HMM.out,H8.out,rfl⟩))⟩
 ·have H8 : Hid ((jn [sc,c,[(n,k)]]).length<=8):=h8
  have ho2 : w8.ownsRow w.heap.size 183 2 v8 (jn [sc,c,[(n,k)]]).length (cellsE (jn [sc,c,[(n,k)]])):=own_base (B:=w.heap.size) ho hs67
  obtain ⟨a8,cap8,rfl⟩:=own_shape ho2
  have HO9 : Hid (w8.ownsRow w.heap.size 183 2 (.slice a8 (jn [sc,c,[(n,k)]]).length cap8) (jn [sc,c,[(n,k)]]).length (cellsE (jn [sc,c,[(n,k)]]))):=ho2
  clear h8 ho ho2
  go_wp2_with (first
   | (refine wpList_store_row rfl 117 _ _ rfl (w.heap.size + 1) #[.slice a8 (jn [sc,c,[(n,k)]]).length cap8,.slice a6 (m + 1) cap6] rfl rfl 117 nilSet HG8.out info38 rfl (one_two _ _ _ _ _ _) ?_))
  refine bodyPost_ret (results23 _ _ (w.heap.size + 1) _ _ 0 rfl rfl (setRow_heap _ _ _ _ _ _ HG8.out)) rfl ⟨below_setRow hb9 (by omega) _,.inr (.inr (.inr ⟨HOK.out,HMM.out,H8.out,p,HP.out,_,_,rfl,?_,?_⟩))⟩
  ·exact own_setRow HO9.out HG8.out (by decide)
  ·rw [HL.out]
   exact own_setRow HO8.out HG8.out (by decide)
end Go.Proofs.YtilkdeghknjjhaaGreatDoor
