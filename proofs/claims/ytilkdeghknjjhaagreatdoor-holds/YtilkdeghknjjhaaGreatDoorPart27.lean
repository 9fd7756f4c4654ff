/- A part of the proof. -/
import Derived.Test.YtilkdeghknjjhaaGreatDoorPart25
set_option maxRecDepth 20000
set_option maxHeartbeats 3200000
set_option linter.unusedVariables false
namespace Go.Proofs.YtilkdeghknjjhaaGreatDoor
open Go.RowKit M
variable {sc C : List (Int × Int)} {e : Int}
theorem result_md (tmps : Array Value) (w : World) (g : Nat) (v1 v2 v3 v4 : Value) (b : Bool) (n : Int) (h8 : tmps.getD 8 undef = .pointer (some ⟨g,0,none⟩)) (h9 : tmps.getD 9 undef = .bool b) (h10 : tmps.getD 10 undef = .int .i64 n) (hg : w.heap[g]? = some (.cells #[v1,v2,v3,v4] 191 (0,0))) :
  (results Tryz.f114 tmps).run Tryz.prog w = .ok (.tuple #[.agg #[v1,v2,v3,v4],.bool b,.int .i64 n]) w:=by
 have hl:=run_loadVar_row (P:=Tryz.prog) w g 191 191 #[v1,v2,v3,v4] (0,0) _ hg Tryz.underlying191 rfl info169
 have h8' : tmps[8]?.getD undef = .pointer (some ⟨g,0,none⟩):=by simpa using h8
 have h9' : tmps[9]?.getD undef = .bool b:=by simpa using h9
 have h10' : tmps[10]?.getD undef = .int .i64 n:=by simpa using h10
 simp [results,Tryz.results114,h8',h9',h10',asAddr,hl]
def Dots (l : List Sb) : Prop:=∀ x ∈ l,Dot x.n x.c
theorem SetOK.dots {c : List (Int × Int)} {l : List Sb} (h : SetOK c l) : Dots l:=by
 intro x hx
 obtain ⟨i,hi,rfl⟩:=List.getElem_of_mem hx
 have:=(h.2.2 i hi).1
 rwa [sb_get l i hi] at this
theorem Dots.un {c : List (Int × Int)} {l : List Sb} (h : Dots l) : Dots (un c l):=fun x hx=>h x (List.mem_filter.1 hx).1
theorem upd_dots {c : List (Int × Int)} {l : List Sb} {n k : Int} {s : ByteArray} {L : List Sb} (h : UpR sc c l n k s C L e) : Dots L:=by
 rcases h with ⟨h1,rfl,rfl,rfl⟩ | ⟨h1,h2,rfl,rfl,rfl⟩ | ⟨h1,h2,h3,rfl,rfl,rfl⟩ | ⟨h1,h2,h3,p,hp,rfl,rfl,rfl⟩
 ·intro x hx;simp at hx
 ·intro x hx;simp at hx
 ·intro x hx;simp at hx
 ·intro x hx
  unfold put at hx
  have hd:=h1.1.dots.un (c:=c)
  rcases List.mem_append.1 hx with h | h
  ·exact hd x (List.mem_of_mem_take h)
  ·rcases List.mem_cons.1 h with rfl | h
   ·exact h1.2.2.1
   ·exact hd x (List.mem_of_mem_drop h)
theorem dis_dots {c : List (Int × Int)} {l : List Sb} {L : List Sb} (h : DsR sc c l C L e) : Dots L:=by
 rcases h with ⟨h1,rfl,rfl,rfl⟩ | ⟨h1,h2,h3,rfl,rfl,rfl⟩ | ⟨h1,h2,h3,rfl,rfl,rfl⟩
 ·intro x hx;simp at hx
 ·intro x hx;simp at hx
 ·exact h1.dots.un
theorem place_ex (l : List Sb) (x : Sb) (hs : l.Pairwise (fun x y=>cd x y < 0)) : ∃ p,Place l x p:=by
 induction l with
 | nil=>exact ⟨0,by simp,fun h=>by omega,fun h=>by simp at h⟩
 | cons y r ih =>
  by_cases hy : cd y x < 0
  ·obtain ⟨p,h1,h2,h3⟩:=ih hs.of_cons
   refine ⟨p + 1,by simpa using h1,fun _=>?_,fun h=>?_⟩
   ·cases p with
    | zero=>exact hy
    | succ q=>have:=h2 (by omega);simpa [sb] using this
   ·have:=h3 (by simpa using h);simpa [sb] using this
  ·exact ⟨0,by simp,fun h=>by omega,fun _=>by show 0<=cd y x;omega⟩
theorem upd_ex (sc c : List (Int × Int)) (l : List Sb) (n k : Int) (s : ByteArray) : ∃ C L e,UpR sc c l n k s C L e:=by
 by_cases h1 : UpOK sc c l n k s
 ·by_cases h2 : 6 < (un c l).length + 1
  ·exact ⟨_,_,_,.inr (.inl ⟨h1,h2,rfl,rfl,rfl⟩)⟩
  ·by_cases h3 : 8 < (jn [sc,c,[(n,k)]]).length
   ·exact ⟨_,_,_,.inr (.inr (.inl ⟨h1,by omega,h3,rfl,rfl,rfl⟩))⟩
   ·obtain ⟨p,hp⟩:=place_ex (un c l) ⟨n,k,s⟩ (un_pw (UpS.pw h1.1.2.2))
    exact ⟨_,_,_,.inr (.inr (.inr ⟨h1,by omega,by omega,p,hp,rfl,rfl,rfl⟩))⟩
 ·exact ⟨_,_,_,.inl ⟨h1,rfl,rfl,rfl⟩⟩
theorem dis_ex (sc c : List (Int × Int)) (l : List Sb) : ∃ C L e,DsR sc c l C L e:=by
 by_cases h1 : SetOK sc l/\Clk c
 ·by_cases h3 : 8 < (jn [sc,c]).length
  ·exact ⟨_,_,_,.inr (.inl ⟨h1.1,h1.2,h3,rfl,rfl,rfl⟩)⟩
  ·exact ⟨_,_,_,.inr (.inr ⟨h1.1,h1.2,by omega,rfl,rfl,rfl⟩)⟩
 ·exact ⟨_,_,_,.inl ⟨h1,rfl,rfl,rfl⟩⟩
theorem outM_dots (node : Int) (S : Se) (i : Nat) (x : Mu) : Dots (outM node S i x).2.1:=by
 unfold outM
 split
 ·obtain ⟨C,L,e,h⟩:=dis_ex S.C x.c S.L
  rw [disF_eq h];exact dis_dots h
 ·obtain ⟨C,L,e,h⟩:=upd_ex S.C x.c S.L node ((i : Int) + 1) x.v
  rw [updF_eq h];exact upd_dots h
theorem ofTo_dots (node : Int) (H : List Mu) (key : ByteArray) : ∀ i,Dots (ofTo node H key i).L
 | 0=>fun x hx=>by simp [ofTo,Se.nil] at hx
 | i + 1=>by
  unfold ofTo
  split
  ·unfold stepM
   split
   ·exact fun x hx=>by simp [Se.nil] at hx
   ·exact outM_dots _ _ _ _
  ·exact ofTo_dots node H key i
def seenTo (c : List (Int × Int)) (l : List Sb) : Nat->Bool
 | 0=>false
 | k + 1=>seenTo c l k || decide ((sb l k).c<=cS c (sb l k).n)
noncomputable def delE (node : Int) (H : List Mu) (k t : ByteArray) (ro : Bool) : Bool × Int :=
 open Classical in if keyOK k = false then (false,1) else if ¬ CtxOK node H.length t then (false,2) else if ro = true then (false,4) else if seenTo (clkT t) (ofM node H k).L (ofM node H k).L.length = false then (false,0) else (true,(disF (ofM node H k).C (clkT t) (ofM node H k).L).2.2)
def DelEnd (E : Bool × Int) (k t : ByteArray) (B : Nat) (e : Ending) (w' : World) : Prop :=
 (¬ (E = (true,0))/\∃ a,MuSh a/\e = .returned (.tuple #[.agg a,.bool E.1,.int .i64 E.2])) \/
 (E = (true,0)/\∃ c,e = .returned (.tuple #[.agg #[.bool true,.string k,.string ⟨#[]⟩,c],.bool true,.int .i64 0])/\w'.ownsRow B 183 2 c (clkT t).length (cellsE (clkT t)))
end Go.Proofs.YtilkdeghknjjhaaGreatDoor
namespace Go.Proofs.YtilkdeghknjjhaaGreatDoor
open Go.RowKit M
theorem refDelete_any (Z : Nat->Prop) (p : Nat) (node : Int) (L : List MuV) (vh : Value) (k t : ByteArray) (ro : Bool) (w : World) (h : ModIn Z w p node L vh) (hl : L.length<=1000000000) (hn0 : 0<=node) (hn1 : node<=15) (ht : t.size<=maxLen) :
  Calls Tryz.prog 114 #[.pointer (some ⟨p,0,none⟩),.string k,.string t,.bool ro] w fun e w'=>DelEnd (delE node (L.map MuV.x) k t ro) k t w.heap.size e w'/\Below w.heap.size w w':=by
 obtain ⟨E,hE⟩ : ∃ E,delE node (L.map MuV.x) k t ro = E:=⟨_,rfl⟩
 have hlm : (L.map MuV.x).length = L.length:=by simp
 have hOf:=fun w' hb'=>Of_any Z p node L vh k w' (h.below (w:=w) hb') hl
 have hdots:=ofTo_dots node (L.map MuV.x) k (L.map MuV.x).length
 change Dots (ofM node (L.map MuV.x) k).L at hdots
 have HE1 : Hid (keyOK k = false->E = (false,1)):=fun h=>by rw [<- hE];unfold delE;rw [if_pos h]
 have HE2 : Hid (keyOK k = true->¬ CtxOK node L.length t->E = (false,2)):=fun h h2=>by rw [<- hE];unfold delE;rw [if_neg (by rw [h];simp),if_pos (by rw [hlm];exact h2)]
 have HE4 : Hid (keyOK k = true->CtxOK node L.length t->ro = true->E = (false,4)):=fun h h2 h3=>by rw [<- hE];unfold delE;rw [if_neg (by rw [h];simp),if_neg (by rw [hlm];exact not_not_intro h2),if_pos h3]
 have HE0 : Hid (keyOK k = true->CtxOK node L.length t->ro = false->E = if seenTo (clkT t) (ofM node (L.map MuV.x) k).L (ofM node (L.map MuV.x) k).L.length = false then (false,0) else (true,(disF (ofM node (L.map MuV.x) k).C (clkT t) (ofM node (L.map MuV.x) k).L).2.2)):=fun h h2 h3=>by
  rw [<- hE];unfold delE;rw [if_neg (by rw [h];simp),if_neg (by rw [hlm];exact not_not_intro h2),if_neg (by rw [h3];simp)]
 rw [hE]
 obtain ⟨S,hS⟩ : ∃ S,ofM node (L.map MuV.x) k = S:=⟨_,rfl⟩
 rw [hS] at HE0 hdots
 have HOf : Hid (∀ w',Below w.heap.size w w'->Calls Tryz.prog 166 #[.pointer (some ⟨p,0,none⟩),.string k] w' fun e w''=>∃ r1 r2,e = .returned (.agg #[r1,r2])/\w''.ownsRow w'.heap.size 183 2 r1 S.C.length (cellsE S.C)/\w''.ownsRow w'.heap.size 122 3 r2 S.L.length (cellsS S.L)/\Below w'.heap.size w' w''/\S.C.length<=8/\S.L.length<=6):=by
  intro w' hb'
  have:=hOf w' hb'
  rw [hS] at this
  exact this
 have HCT : Hid (∀ w',Below w.heap.size w w'->Calls Tryz.prog 172 #[.pointer (some ⟨p,0,none⟩),.string t] w' fun e w''=>CtxEnd node L.length t w'.heap.size e w''/\Below w'.heap.size w' w'') :=
  fun w' hb'=>refcontext_any Z p node L vh t w' (h.below (w:=w) hb') hl hn0 hn1 ht
 have HDT : Hid (Dots S.L):=hdots
 clear hE hlm hOf hS h hdots
 go_enter Tryz.func114,Tryz.ntmps114
 go_upto_region 1 with (fail)
 obtain ⟨W,hW,HR,hb⟩ : ∃ W,(w.alloc (.cells muZ 191)) = W/\Hid (W.heap[w.heap.size]? = some (.cells muZ 191 (0,0)))/\Below w.heap.size w W :=
  ⟨_,rfl,heap_alloc_new w _,(Below.refl _ _).alloc (Nat.le_refl _) _⟩
 rw [show (#[Value.bool false,Value.string { data:=#[] },Value.string { data:=#[] },Value.slice none 0 0] : Array Value) = muZ from rfl]
 rw [hW]
 clear hW
 by_cases h1 : k.size < 1
 ·have h1' : (k.size : Int) < 1:=by omega
  have HP : Hid (E = (false,1)):=HE1.out (by unfold keyOK;simp;omega)
  clear h1 HE1 HE2 HE4 HE0 HCT HOf
  go_wp2_with (first
   | (refine wpList_store_row rfl 191 _ _ rfl w.heap.size muZ rfl rfl 191 muZ HR.out info169 rfl (one_mu _ _ _ _ _ _) ?_))
  refine bodyPost_ret (result_md _ _ w.heap.size _ _ _ _ false 1 rfl rfl rfl (setRow_heap _ _ _ _ _ _ HR.out)) rfl ⟨.inl ⟨by rw [HP.out];decide,_,⟨_,_,_,_,_,_,rfl⟩,by rw [HP.out]⟩,below_setRow hb (Nat.le_refl _) _⟩
 have k1 : ¬ (k.size : Int) < 1:=by omega
 by_cases h2 : 40 < k.size
 ·have h2' : 40 < (k.size : Int):=by omega
  have HP : Hid (E = (false,1)):=HE1.out (by unfold keyOK;simp;omega)
  clear h1 h2 HE1 HE2 HE4 HE0 HCT HOf
  go_wp2_with (first
   | (refine wpList_store_row rfl 191 _ _ rfl w.heap.size muZ rfl rfl 191 muZ HR.out info169 rfl (one_mu _ _ _ _ _ _) ?_))
  refine bodyPost_ret (result_md _ _ w.heap.size _ _ _ _ false 1 rfl rfl rfl (setRow_heap _ _ _ _ _ _ HR.out)) rfl ⟨.inl ⟨by rw [HP.out];decide,_,⟨_,_,_,_,_,_,rfl⟩,by rw [HP.out]⟩,below_setRow hb (Nat.le_refl _) _⟩
 have k2 : ¬ 40 < (k.size : Int):=by omega
 have hok : keyOK k = true:=by unfold keyOK;simp;omega
 have HE2:=HE2.out hok
 have HE4:=HE4.out hok
 have HE0:=HE0.out hok
 have hs0:=hb.size
 have HSW : Hid (w.heap.size<=W.heap.size):=hs0
 clear h1 h2 hok HE1
 go_wp2_with fail
 refine (HCT.out W hb).mono ?_
 rintro e w1 ⟨⟨vc,m,rfl,hc⟩,hb1⟩
 have HR1 : Hid (w1.heap[w.heap.size]? = some (.cells muZ 191 (0,0))):=heap_later hb1 HR.out
 have hbw:=hb.trans (hb1.mono hs0)
 have hsw:=hbw.size
 rcases hc with ⟨hno,rfl,rfl⟩ | ⟨hyes,ho,rfl⟩
 ·have HP : Hid (E = (false,2)):=HE2 hno
  clear hno HE2 HE4 HE0 HCT HOf HR
  go_wp2_with (first
   | (refine wpList_store_row rfl 191 _ _ rfl w.heap.size muZ rfl rfl 191 muZ HR1.out info169 rfl (one_mu _ _ _ _ _ _) ?_))
  refine bodyPost_ret (result_md _ _ w.heap.size _ _ _ _ false 2 rfl rfl rfl (setRow_heap _ _ _ _ _ _ HR1.out)) rfl ⟨.inl ⟨by rw [HP.out];decide,_,⟨_,_,_,_,_,_,rfl⟩,by rw [HP.out]⟩,below_setRow hbw (Nat.le_refl _) _⟩
 cases ro
 rotate_left
 ·have HP : Hid (E = (false,4)):=HE4 hyes rfl
  clear hyes HE2 HE4 HE0 HCT HOf HR ho
  go_wp2_with (first
   | (refine wpList_store_row rfl 191 _ _ rfl w.heap.size muZ rfl rfl 191 muZ HR1.out info169 rfl (one_mu _ _ _ _ _ _) ?_))
  refine bodyPost_ret (result_md _ _ w.heap.size _ _ _ _ false 4 rfl rfl rfl (setRow_heap _ _ _ _ _ _ HR1.out)) rfl ⟨.inl ⟨by rw [HP.out];decide,_,⟨_,_,_,_,_,_,rfl⟩,by rw [HP.out]⟩,below_setRow hbw (Nat.le_refl _) _⟩
 have HP0 : Hid (E = if seenTo (clkT t) S.L S.L.length = false then (false,0) else (true,(disF S.C (clkT t) S.L).2.2)):=HE0 hyes rfl
 have HO : Hid (w1.ownsRow W.heap.size 183 2 vc (clkT t).length (cellsE (clkT t))):=ho
 have HCL : Hid (Clk (clkT t)):=hyes.1.2.2
 obtain ⟨a1,q1,hv1,_⟩:=own_cells ho
 subst hv1
 have HCV : Hid (Rd w1 (.slice a1 (clkT t).length q1) (clkT t)):=Rd.own ho rfl
 obtain ⟨C,hC⟩ : ∃ C,clkT t = C:=⟨_,rfl⟩
 have HC : Hid (clkT t = C):=hC
 rw [hC] at HP0 HO HCV HCL
 rw [hC]
 clear hC HE2 HE4 HE0 HCT HR ho hyes hb hb1 hs0
 go_wp2_with fail
 refine (HOf.out w1 hbw).mono ?_
 rintro e w2 ⟨r1,r2,rfl,o1,o2,hb2,l1,l2⟩
 obtain ⟨b1,m1,hr1,_⟩:=own_cells o1
 obtain ⟨b2,m2,hr2,_,_,hA⟩:=own_cells o2
 subst hr1
 subst hr2
 clear HOf
 go_upto_region 9 with (fail)
 obtain ⟨W3,hW,hb3,t0,t1⟩ : ∃ W3,(w2.alloc (.cells #[.slice b1 S.C.length m1,.slice b2 S.L.length m2] 117)) = W3/\Below w2.heap.size w2 W3/\W3.cell? ⟨w2.heap.size,0,none⟩ = some (.slice b1 S.C.length m1)/\W3.cell? ⟨w2.heap.size,1,none⟩ = some (.slice b2 S.L.length m2) :=
  ⟨_,rfl,(Below.refl _ _).alloc (Nat.le_refl _) _,by simp [go_sem],by simp [go_sem]⟩
 rw [hW]
 clear hW
 have hb13:=hb2.trans (hb3.mono hb2.size)
 have hRC3 : Rd W3 (.slice a1 C.length q1) C:=HCV.out.below hb13
 have HRS1 : Hid (Rd W3 (.slice b1 S.C.length m1) S.C):=(Rd.own o1 rfl).below hb3
 have HRS2 : Hid (RdS W3 (.slice b2 S.L.length m2) S.L):=(RdS.own o2 rfl).below hb3
 have HA : Hid (∀ j,j < S.L.length->∃ g,b2 = some ⟨g,0,none⟩/\W3.cell? ⟨g,j * 3,none⟩ = some (.int .i64 (sb S.L j).n)/\W3.cell? ⟨g,j * 3 + 1,none⟩ = some (.int .i64 (sb S.L j).c)):=by
  intro j hj
  obtain ⟨g,ha,_,hc⟩:=hA (by omega)
  exact ⟨g,ha,cell_later hb3 (hc _ _ (cellsS_at S.L j hj).1),cell_later hb3 (hc _ _ (cellsS_at S.L j hj).2.1)⟩
 have HO3 : Hid (W3.ownsRow W.heap.size 183 2 (.slice a1 C.length q1) C.length (cellsE C)):=own_below HO.out hb13
 have HR3 : Hid (W3.heap[w.heap.size]? = some (.cells muZ 191 (0,0))):=heap_later hb13 HR1.out
 have hbw3:=hbw.trans (hb13.mono hsw)
 have HL6 : Hid (S.L.length<=6):=l2
 clear hA o1 o2 hb2 hb3 hb13 HR1 HO HCV hbw l1 l2 hsw
 go_wp2_with fail
 refine (refClock_any _ C W3 hRC3).mono ?_
 rintro e w4 ⟨ok,F,rfl,hok,hF,hb4⟩
 have HF : Hid (F = cN C):=hF (hok.2 HCL.out)
 have hsw3:=hbw3.size
 have hs4:=hb4.size
 clear hok hF hRC3
 go_upto_region 10 with (first
  | (refine wpList_store_row rfl 241 _ _ rfl w4.heap.size (arr F) rfl rfl 241 (arr zF) (alloc_lit w4 (arr zF)) (by rw [arr_size];exact info61) (by rw [arr_size,arr_size]) (one_arr _) ?_))
 obtain ⟨w5,hw5,hr5,hb5⟩ : ∃ w5,((w4.alloc (.cells (arr zF) 241)).setRow w4.heap.size (arr F)) = w5/\w5.heap[w4.heap.size]? = some (.cells (arr F) 241 (0,0))/\Below w4.heap.size w4 w5 :=
  ⟨_,rfl,setRow_heap _ _ _ _ _ _ (alloc_lit w4 (arr zF)),below_setRow ((Below.refl _ _).alloc (Nat.le_refl _) _) (Nat.le_refl _) _⟩
 rw [zlit] at hw5
 rw [hw5]
 have HR5 : Hid (w5.heap[w4.heap.size]? = some (.cells (arr F) 241 (0,0))):=hr5
 have HB5 : Hid (Below W3.heap.size W3 w5):=hb4.trans (hb5.mono hs4)
 have t0':=cell_later HB5.out t0
 have t1':=cell_later HB5.out t1
 have hs5:=HB5.out.size
 clear hw5 hr5 hb5 hb4 t0 t1
 go_wp2_with fail
 go_loopw [16,17] (fun b i wr=>∃ j : Nat,j<=S.L.length/\i = .int .i64 j/\b = .bool (seenTo C S.L j)/\Below w5.heap.size w5 wr) (fun _ i _=>S.L.length - (intOf i).toNat)
 case atStart=>exact ⟨0,Nat.zero_le _,rfl,rfl,Below.refl _ _⟩
 case round =>
  obtain ⟨j,hj,rfl,rfl,hbr⟩:=hrel
  have hsr:=hbr.size
  have x0:=cell_later hbr t0'
  have x1:=cell_later hbr t1'
  by_cases hlt : j < S.L.length
  ·have q1' : (j : Int) < (S.L.length : Int):=by omega
   have q0' : (0 : Int)<=(j : Int):=by omega
   have hL6:=HL6.out
   have HS : Hid (seenTo C S.L (j + 1) = (seenTo C S.L j || decide ((sb S.L j).c<=cS C (sb S.L j).n))):=rfl
   obtain ⟨b,hb0⟩ : ∃ b,seenTo C S.L j = b:=⟨_,rfl⟩
   rw [hb0] at HS
   rw [hb0]
   clear hb0
   cases b
   ·obtain ⟨g,rfl,c0,c1⟩:=HA.out j hlt
    have y0:=cell_later hbr (cell_later HB5.out c0)
    have y1:=cell_later hbr (cell_later HB5.out c1)
    have hdj : Dot (sb S.L j).n (sb S.L j).c:=HDT.out _ (by rw [sb_get _ _ hlt];exact List.getElem_mem _)
    obtain ⟨nd,hnd⟩:=Int.eq_ofNat_of_zero_le hdj.1
    have hnd16 : nd < 16:=by have:=hdj.2.1;omega
    have z0 : wr.cell? ⟨w4.heap.size,nd,none⟩ = some (.int .i64 (cS C (nd : Int))):=by
     rw [cell_of_row _ _ _ _ _ _ (heap_later hbr HR5.out),arr_at _ _ hnd16,HF.out];rfl
    obtain ⟨x,hx⟩ : ∃ x,sb S.L j = x:=⟨_,rfl⟩
    rw [hx] at y0 y1 HS hnd
    rw [hnd] at y0 HS
    have n0 : (0 : Int)<=(nd : Int):=by omega
    have n1 : (nd : Int) < 16:=by omega
    clear c0 c1 hdj hx hnd
    by_cases hge : x.c<=cS C (nd : Int)
    ·have HSV : Hid (seenTo C S.L (j + 1) = true):=by show _ = _;rw [HS.out];simp [hge]
     have hgd : decide (x.c<=cS C (nd : Int)) = true:=by simpa using hge
     go_wp2_with fail
     go_quiet (fail)
     go_wp2
     go_roundw
     case rel=>exact ⟨j + 1,by omega,by go_num,by rw [HSV.out],below_drewN hbr nq⟩
     case measure=>simp [intOf];omega
    ·have HSV : Hid (seenTo C S.L (j + 1) = false):=by show _ = _;rw [HS.out];simp [hge]
     have hgd : decide (x.c<=cS C (nd : Int)) = false:=by simpa using hge
     go_wp2_with fail
     go_quiet (fail)
     go_wp2
     go_roundw
     case rel=>exact ⟨j + 1,by omega,by go_num,by rw [HSV.out],below_drewN hbr nq⟩
     case measure=>simp [intOf];omega
   ·have HSV : Hid (seenTo C S.L (j + 1) = true):=by show _ = _;rw [HS.out];rfl
    go_wp2_with fail
    go_quiet (fail)
    go_wp2
    go_roundw
    case rel=>exact ⟨j + 1,by omega,by go_num,by rw [HSV.out],below_drewN hbr nq⟩
    case measure=>simp [intOf];omega
  ·have he : j = S.L.length:=by omega
   have q1' : ¬ (j : Int) < (S.L.length : Int):=by omega
   have HSV : Hid (seenTo C S.L j = seenTo C S.L S.L.length):=by show _ = _;rw [he]
   rw [HSV.out]
   obtain ⟨b,hb0⟩ : ∃ b,seenTo C S.L S.L.length = b:=⟨_,rfl⟩
   rw [hb0] at HP0
   rw [hb0]
   have hb35 : Below W3.heap.size W3 wr:=HB5.out.trans (hbr.mono hs5)
   have HRr : Hid (wr.heap[w.heap.size]? = some (.cells muZ 191 (0,0))):=heap_later hb35 HR3.out
   have hbwr:=hbw3.trans (hb35.mono hsw3)
   have hswr:=hbwr.size
   clear hb0 he HSV
   cases b
   ·have HP : Hid (E = (false,0)):=HP0.out
    clear HP0 hb35 hbr
    go_wp2_with (first
     | (refine wpList_store_row rfl 191 _ _ rfl w.heap.size muZ rfl rfl 191 muZ HRr.out info169 rfl (one_mu _ _ _ _ _ _) ?_))
    refine bodyPost_ret (result_md _ _ w.heap.size _ _ _ _ false 0 rfl rfl rfl (setRow_heap _ _ _ _ _ _ HRr.out)) rfl ⟨.inl ⟨by rw [HP.out];decide,_,⟨_,_,_,_,_,_,rfl⟩,by rw [HP.out]⟩,below_setRow hbwr (Nat.le_refl _) _⟩
   ·obtain ⟨q,hq⟩ : ∃ q,disF S.C C S.L = q:=⟨_,rfl⟩
    rw [hq] at HP0
    have HP : Hid (E = (true,q.2.2)):=HP0.out
    have HQ : Hid (disF S.C C S.L = q):=hq
    have HRCr : Hid (Rd wr (.slice a1 C.length q1) C):=(Rd.own HO3.out rfl).below hb35
    have HOr : Hid (wr.ownsRow w.heap.size 183 2 (.slice a1 C.length q1) C.length (cellsE C)):=own_base (own_below HO3.out hb35) HSW.out
    have HRS1r:=HRS1.out.below hb35
    have HRS2r:=HRS2.out.below hb35
    clear HP0 hq hbr
    go_wp2_with fail
    refine (refDiscard_u _ _ _ _ _ _ wr HRS1r HRS2r HRCr.out).mono ?_
    intro e w6 hq6
    have hq2:=hq6.dis
    rw [HQ.out] at hq2
    obtain ⟨s1,s2,rfl,_,_,hb6,_⟩:=hq2
    have HR6 : Hid (w6.heap[w.heap.size]? = some (.cells muZ 191 (0,0))):=heap_later hb6 HRr.out
    have hb7:=hbwr.trans (hb6.mono hswr)
    have HO6 : Hid (w6.ownsRow w.heap.size 183 2 (.slice a1 C.length q1) (clkT t).length (cellsE (clkT t))):=by rw [HC.out];exact own_below HOr.out hb6
    clear hb6 hq6 hb35
    go_wp2_with (first
     | (refine wpList_store_row rfl 191 _ _ rfl w.heap.size #[.bool true,.string k,.string ⟨#[]⟩,.slice a1 C.length q1] rfl rfl 191 muZ HR6.out info169 rfl (one_mu _ _ _ _ _ _) ?_))
    refine bodyPost_ret (result_md _ _ w.heap.size _ _ _ _ true q.2.2 rfl rfl rfl (setRow_heap _ _ _ _ _ _ HR6.out)) rfl ⟨?_,below_setRow hb7 (Nat.le_refl _) _⟩
    rw [HP.out]
    by_cases hq : q.2.2 = 0
    ·exact .inr ⟨by rw [hq],_,by rw [hq],own_setRow HO6.out HR6.out (by decide)⟩
    ·exact .inl ⟨fun h=>hq (by injection h),_,⟨_,_,_,_,_,_,rfl⟩,rfl⟩
end Go.Proofs.YtilkdeghknjjhaaGreatDoor
