/- A part of the proof. -/
import Derived.Test.YtilkdeghknjjhaaGreatDoorPart23
set_option maxRecDepth 20000
set_option maxHeartbeats 3200000
set_option linter.unusedVariables false
namespace Go.Proofs.YtilkdeghknjjhaaGreatDoor
open Go.RowKit M
theorem info169 : (Tryz.prog.info? 191).map (·.size) = some 4:=by kernel_rfl
def muZ : Array Value:=#[.bool false,.string ⟨#[]⟩,.string ⟨#[]⟩,.slice none 0 0]
theorem one_mu (b : Bool) (s t : ByteArray) (a : Option Addr) (n c : Nat) : (#[Value.bool b,Value.string s,Value.string t,Value.slice a n c] : Array Value).all (·.oneCell') = true:=by simp [Value.oneCell']
theorem result_mu (tmps : Array Value) (w : World) (g : Nat) (v1 v2 v3 v4 : Value) (n : Int) (h10 : tmps.getD 10 undef = .pointer (some ⟨g,0,none⟩)) (h11 : tmps.getD 11 undef = .int .i64 n) (hg : w.heap[g]? = some (.cells #[v1,v2,v3,v4] 191 (0,0))) :
  (results Tryz.f111 tmps).run Tryz.prog w = .ok (.tuple #[.agg #[v1,v2,v3,v4],.int .i64 n]) w:=by
 have hl:=run_loadVar_row (P:=Tryz.prog) w g 191 191 #[v1,v2,v3,v4] (0,0) _ hg Tryz.underlying191 rfl info169
 have h10' : tmps[10]?.getD undef = .pointer (some ⟨g,0,none⟩):=by simpa using h10
 have h11' : tmps[11]?.getD undef = .int .i64 n:=by simpa using h11
 simp [results,Tryz.results111,h10',h11',asAddr,hl]
def putOK (k v : ByteArray) : Bool:=keyOK k && decide (v.size<=200)
noncomputable def putE (node : Int) (H : List Mu) (k v t : ByteArray) (ro : Bool) : Int :=
 open Classical in if putOK k v = false then 1 else if ¬ CtxOK node H.length t then 2 else if ro = true then 4 else (updF (ofM node H k).C (clkT t) (ofM node H k).L node ((H.length : Int) + 1) v).2.2
def MuSh (a : Array Value) : Prop:=∃ (b : Bool) (s1 s2 : ByteArray) (ad : Option Addr) (l c : Nat),a = #[.bool b,.string s1,.string s2,.slice ad l c]
def PutEnd (E : Int) (k v t : ByteArray) (B : Nat) (e : Ending) (w' : World) : Prop :=
 (E ≠ 0/\∃ a,MuSh a/\e = .returned (.tuple #[.agg a,.int .i64 E])) \/
 (E = 0/\∃ c,e = .returned (.tuple #[.agg #[.bool false,.string k,.string v,c],.int .i64 0])/\w'.ownsRow B 183 2 c (clkT t).length (cellsE (clkT t)))
theorem refPut_any (Z : Nat->Prop) (p : Nat) (node : Int) (L : List MuV) (vh : Value) (k v t : ByteArray) (ro : Bool) (w : World) (h : ModIn Z w p node L vh) (hl : L.length<=1000000000) (hn0 : 0<=node) (hn1 : node<=15) (ht : t.size<=maxLen) :
  Calls Tryz.prog 111 #[.pointer (some ⟨p,0,none⟩),.string k,.string v,.string t,.bool ro] w fun e w'=>PutEnd (putE node (L.map MuV.x) k v t ro) k v t w.heap.size e w'/\Below w.heap.size w w':=by
 obtain ⟨E,hE⟩ : ∃ E,putE node (L.map MuV.x) k v t ro = E:=⟨_,rfl⟩
 have hlm : (L.map MuV.x).length = L.length:=by simp
 have HE1 : Hid (putOK k v = false->E = 1):=fun h=>by rw [<- hE];unfold putE;rw [if_pos h]
 have HE2 : Hid (putOK k v = true->¬ CtxOK node L.length t->E = 2):=fun h h2=>by rw [<- hE];unfold putE;rw [if_neg (by rw [h];simp),if_pos (by rw [hlm];exact h2)]
 have HE4 : Hid (putOK k v = true->CtxOK node L.length t->ro = true->E = 4):=fun h h2 h3=>by rw [<- hE];unfold putE;rw [if_neg (by rw [h];simp),if_neg (by rw [hlm];exact not_not_intro h2),if_pos h3]
 have HE0 : Hid (putOK k v = true->CtxOK node L.length t->ro = false->E = (updF (ofM node (L.map MuV.x) k).C (clkT t) (ofM node (L.map MuV.x) k).L node ((L.length : Int) + 1) v).2.2):=fun h h2 h3=>by
  rw [<- hE];unfold putE;rw [if_neg (by rw [h];simp),if_neg (by rw [hlm];exact not_not_intro h2),if_neg (by rw [h3];simp),hlm]
 rw [hE]
 clear hE hlm
 have hctx:=fun w' hb'=>refcontext_any Z p node L vh t w' (h.below (w:=w) hb') hl hn0 hn1 ht
 have HCT : Hid (∀ w',Below w.heap.size w w'->Calls Tryz.prog 172 #[.pointer (some ⟨p,0,none⟩),.string t] w' fun e w''=>CtxEnd node L.length t w'.heap.size e w''/\Below w'.heap.size w' w''):=hctx
 have HM : Hid (ModIn Z w p node L vh):=h
 clear hctx h
 go_enter Tryz.func111,Tryz.ntmps111
 go_upto_region 1 with (fail)
 obtain ⟨W,hW,HR,hb⟩ : ∃ W,(w.alloc (.cells muZ 191)) = W/\Hid (W.heap[w.heap.size]? = some (.cells muZ 191 (0,0)))/\Below w.heap.size w W :=
  ⟨_,rfl,heap_alloc_new w _,(Below.refl _ _).alloc (Nat.le_refl _) _⟩
 rw [show (#[Value.bool false,Value.string { data:=#[] },Value.string { data:=#[] },Value.slice none 0 0] : Array Value) = muZ from rfl]
 rw [hW]
 clear hW
 by_cases h1 : k.size < 1
 ·have h1' : (k.size : Int) < 1:=by omega
  have HP : Hid (E = 1):=HE1.out (by unfold putOK keyOK;simp;omega)
  clear h1 HE1 HE2 HE4 HE0 HCT HM
  go_wp2_with (first
   | (refine wpList_store_row rfl 191 _ _ rfl w.heap.size muZ rfl rfl 191 muZ HR.out info169 rfl (one_mu _ _ _ _ _ _) ?_))
  refine bodyPost_ret (result_mu _ _ w.heap.size _ _ _ _ 1 rfl rfl (setRow_heap _ _ _ _ _ _ HR.out)) rfl ⟨.inl ⟨by rw [HP.out];decide,_,⟨_,_,_,_,_,_,rfl⟩,by rw [HP.out]⟩,below_setRow hb (Nat.le_refl _) _⟩
 have k1 : ¬ (k.size : Int) < 1:=by omega
 by_cases h2 : 40 < k.size
 ·have h2' : 40 < (k.size : Int):=by omega
  have HP : Hid (E = 1):=HE1.out (by unfold putOK keyOK;simp;omega)
  clear h1 h2 HE1 HE2 HE4 HE0 HCT HM
  go_wp2_with (first
   | (refine wpList_store_row rfl 191 _ _ rfl w.heap.size muZ rfl rfl 191 muZ HR.out info169 rfl (one_mu _ _ _ _ _ _) ?_))
  refine bodyPost_ret (result_mu _ _ w.heap.size _ _ _ _ 1 rfl rfl (setRow_heap _ _ _ _ _ _ HR.out)) rfl ⟨.inl ⟨by rw [HP.out];decide,_,⟨_,_,_,_,_,_,rfl⟩,by rw [HP.out]⟩,below_setRow hb (Nat.le_refl _) _⟩
 have k2 : ¬ 40 < (k.size : Int):=by omega
 by_cases h3 : 200 < v.size
 ·have h3' : 200 < (v.size : Int):=by omega
  have HP : Hid (E = 1):=HE1.out (by unfold putOK keyOK;simp;omega)
  clear h1 h2 h3 HE1 HE2 HE4 HE0 HCT HM
  go_wp2_with (first
   | (refine wpList_store_row rfl 191 _ _ rfl w.heap.size muZ rfl rfl 191 muZ HR.out info169 rfl (one_mu _ _ _ _ _ _) ?_))
  refine bodyPost_ret (result_mu _ _ w.heap.size _ _ _ _ 1 rfl rfl (setRow_heap _ _ _ _ _ _ HR.out)) rfl ⟨.inl ⟨by rw [HP.out];decide,_,⟨_,_,_,_,_,_,rfl⟩,by rw [HP.out]⟩,below_setRow hb (Nat.le_refl _) _⟩
 have k3 : ¬ 200 < (v.size : Int):=by omega
 have hok : putOK k v = true:=by unfold putOK keyOK;simp;omega
 have HE2:=HE2.out hok
 have HE4:=HE4.out hok
 have HE0:=HE0.out hok
 have hs0:=hb.size
 have HSW : Hid (w.heap.size<=W.heap.size):=hs0
 clear h1 h2 h3 hok HE1
 go_wp2_with fail
 refine (HCT.out W hb).mono ?_
 rintro e w1 ⟨⟨vc,m,rfl,hc⟩,hb1⟩
 have HR1 : Hid (w1.heap[w.heap.size]? = some (.cells muZ 191 (0,0))):=heap_later hb1 HR.out
 have hbw:=hb.trans (hb1.mono hs0)
 have hsw:=hbw.size
 rcases hc with ⟨hno,rfl,rfl⟩ | ⟨hyes,ho,rfl⟩
 ·have HP : Hid (E = 2):=HE2 hno
  clear hno HE2 HE4 HE0 HCT HM HR
  go_wp2_with (first
   | (refine wpList_store_row rfl 191 _ _ rfl w.heap.size muZ rfl rfl 191 muZ HR1.out info169 rfl (one_mu _ _ _ _ _ _) ?_))
  refine bodyPost_ret (result_mu _ _ w.heap.size _ _ _ _ 2 rfl rfl (setRow_heap _ _ _ _ _ _ HR1.out)) rfl ⟨.inl ⟨by rw [HP.out];decide,_,⟨_,_,_,_,_,_,rfl⟩,by rw [HP.out]⟩,below_setRow hbw (Nat.le_refl _) _⟩
 cases ro
 rotate_left
 ·have HP : Hid (E = 4):=HE4 hyes rfl
  clear hyes HE2 HE4 HE0 HCT HM HR ho
  go_wp2_with (first
   | (refine wpList_store_row rfl 191 _ _ rfl w.heap.size muZ rfl rfl 191 muZ HR1.out info169 rfl (one_mu _ _ _ _ _ _) ?_))
  refine bodyPost_ret (result_mu _ _ w.heap.size _ _ _ _ 4 rfl rfl (setRow_heap _ _ _ _ _ _ HR1.out)) rfl ⟨.inl ⟨by rw [HP.out];decide,_,⟨_,_,_,_,_,_,rfl⟩,by rw [HP.out]⟩,below_setRow hbw (Nat.le_refl _) _⟩
 have HP0:=HE0 hyes rfl
 have HO : Hid (w1.ownsRow W.heap.size 183 2 vc (clkT t).length (cellsE (clkT t))):=ho
 obtain ⟨a1,q1,hv1,_⟩:=own_cells ho
 subst hv1
 have HCV : Hid (Rd w1 (.slice a1 (clkT t).length q1) (clkT t)):=Rd.own ho rfl
 have HM1 : Hid (ModIn Z w1 p node L vh):=HM.out.below hbw
 obtain ⟨ah,ch,hvh,_⟩:=HM1.out.cells
 subst hvh
 have c0 : w1.cell? ⟨p,0,none⟩ = some (.int .i64 node):=by rw [cell_of_row _ _ _ _ _ _ HM1.out.hp];rfl
 have c1 : w1.cell? ⟨p,1,none⟩ = some (.slice ah L.length ch):=by rw [cell_of_row _ _ _ _ _ _ HM1.out.hp];rfl
 obtain ⟨S,hS⟩ : ∃ S,ofM node (L.map MuV.x) k = S:=⟨_,rfl⟩
 obtain ⟨q,hq⟩ : ∃ q,updF S.C (clkT t) S.L node ((L.length : Int) + 1) v = q:=⟨_,rfl⟩
 have HP : Hid (E = q.2.2):=by show E = _;rw [HP0,hS,hq]
 have HOf : Hid (∀ w',Below w1.heap.size w1 w'->Calls Tryz.prog 166 #[.pointer (some ⟨p,0,none⟩),.string k] w' fun e w''=>∃ r1 r2,e = .returned (.agg #[r1,r2])/\w''.ownsRow w'.heap.size 183 2 r1 S.C.length (cellsE S.C)/\w''.ownsRow w'.heap.size 122 3 r2 S.L.length (cellsS S.L)/\Below w'.heap.size w' w''):=by
  intro w' hb'
  refine (Of_any Z p node L _ k w' (HM1.out.below hb') hl).mono ?_
  rintro e w'' ⟨r1,r2,he,o1,o2,hb2,_⟩
  rw [hS] at o1 o2
  exact ⟨r1,r2,he,o1,o2,hb2⟩
 have HUp : Hid (∀ w' r1 r2 B,Below w1.heap.size w1 w'->w'.ownsRow B 183 2 r1 S.C.length (cellsE S.C)->w'.ownsRow B 122 3 r2 S.L.length (cellsS S.L) ->
   Calls Tryz.prog 173 #[.agg #[r1,r2],.slice a1 (clkT t).length q1,.int .i64 node,.int .i64 (IntKind.i64.wrap ((L.length : Int) + 1)),.string v] w' fun e w''=>∃ s1 s2,e = .returned (.tuple #[.agg #[s1,s2],.int .i64 q.2.2])/\Below w'.heap.size w' w''):=by
  intro w' r1 r2 B hb' o1 o2
  rw [wrap_in ((L.length : Int) + 1) (by omega) (by omega)]
  refine (refUpdate_u _ _ _ _ _ _ _ _ _ w' (Rd.own o1 rfl) (RdS.own o2 rfl) (HCV.out.below hb')).mono ?_
  intro e w3 hq3
  have hq2:=hq3.upd
  rw [hq] at hq2
  obtain ⟨s1,s2,he,_,_,hb3,_⟩:=hq2
  exact ⟨s1,s2,he,hb3⟩
 obtain ⟨C,hC⟩ : ∃ C,(clkT t).length = C:=⟨_,rfl⟩
 rw [hC] at HUp
 rw [hC]
 have HCC : Hid ((clkT t).length = C):=hC
 clear hC hS hq HP0 HE2 HE4 HE0 HCT HM HR ho hyes hb hb1 hs0
 go_upto_region 8 with (fail)
 go_region_with (first
  | (go_at_call 166;refine (HOf.out _ (by repeat (first | exact Below.refl _ _ | refine Below.drew ?_ | refine below_drewN ?_ _))).mono ?_;rintro e w5 ⟨r1,r2,rfl,o1,o2,hb5'⟩;have hb5 : Below w1.heap.size w1 w5:=(by repeat (first | exact hb5' | exact Below.refl _ _ | refine Below.trans ?_ hb5' | refine Below.drew ?_ | refine below_drewN ?_ _));have d0:=cell_later hb5 c0;have d1:=cell_later hb5 c1;clear hb5')
  | (go_at_call 173;refine (HUp.out _ _ _ _ hb5 o1 o2).mono ?_;rintro e w6 ⟨s1,s2,rfl,hb6'⟩;have hb6 : Below w1.heap.size w1 w6:=hb5.trans (hb6'.mono hb5.size);clear hb6'))
 all_goals
  have HR6 : Hid (w6.heap[w.heap.size]? = some (.cells muZ 191 (0,0))):=heap_later hb6 HR1.out
  have hb7:=hbw.trans (hb6.mono hsw)
  have HO6 : Hid (w6.ownsRow w.heap.size 183 2 (.slice a1 C q1) (clkT t).length (cellsE (clkT t))):=by rw [<- HCC.out];exact own_base (own_below HO.out hb6) HSW.out
  clear hb5 hb6 o1 o2 d0 d1 c0 c1
  go_wp2_with (first
   | (refine wpList_store_row rfl 191 _ _ rfl w.heap.size #[.bool false,.string k,.string v,.slice a1 C q1] rfl rfl 191 muZ HR6.out info169 rfl (one_mu _ _ _ _ _ _) ?_))
  refine bodyPost_ret (result_mu _ _ w.heap.size _ _ _ _ q.2.2 rfl rfl (setRow_heap _ _ _ _ _ _ HR6.out)) rfl ⟨?_,below_setRow hb7 (Nat.le_refl _) _⟩
  rw [HP.out]
  by_cases hq : q.2.2 = 0
  ·exact .inr ⟨hq,_,by rw [hq],own_setRow HO6.out HR6.out (by decide)⟩
  ·exact .inl ⟨hq,_,⟨_,_,_,_,_,_,rfl⟩,rfl⟩
end Go.Proofs.YtilkdeghknjjhaaGreatDoor
