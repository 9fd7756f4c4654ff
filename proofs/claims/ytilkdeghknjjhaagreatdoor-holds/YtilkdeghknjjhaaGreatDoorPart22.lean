/- A part of the proof. -/
import Derived.Test.YtilkdeghknjjhaaGreatDoorPart20
import Derived.Test.YtilkdeghknjjhaaGreatDoorPart19
set_option maxRecDepth 20000
set_option maxHeartbeats 3200000
set_option linter.unusedVariables false
namespace Go.Proofs.YtilkdeghknjjhaaGreatDoor
open Go.RowKit M
variable {w : World} {B g : Nat} {C : List (Int × Int)} {r1 r2 : Value}
structure SetAt (w : World) (B g : Nat) (C : List (Int × Int)) (L : List Sb) (r1 r2 : Value) : Prop where
 hg : w.heap[g]? = some (.cells #[r1,r2] 117 (0,0))
 o1 : w.ownsRow B 183 2 r1 C.length (cellsE C)
 o2 : w.ownsRow B 122 3 r2 L.length (cellsS L)
 l1 : C.length<=8
 l2 : L.length<=6
theorem SetAt.below {w' : World} {L : List Sb} (h : SetAt w B g C L r1 r2) (t : Below w.heap.size w w') : SetAt w' B g C L r1 r2 :=
 ⟨heap_later t h.hg,own_below h.o1 t,own_below h.o2 t,h.l1,h.l2⟩
theorem SetAt.nil (h : w.heap[g]? = some (.cells nilSet 117 (0,0))) : SetAt w B g [] [] (.slice none 0 0) (.slice none 0 0) :=
 ⟨h,World.ownsRow_nil _ _ _ _,World.ownsRow_nil _ _ _ _,by simp,by simp⟩
theorem SetAt.c0 {L : List Sb} (h : SetAt w B g C L r1 r2) : w.cell? ⟨g,0,none⟩ = some r1:=by rw [cell_of_row _ _ _ _ _ _ h.hg];rfl
theorem SetAt.c1 {L : List Sb} (h : SetAt w B g C L r1 r2) : w.cell? ⟨g,1,none⟩ = some r2:=by rw [cell_of_row _ _ _ _ _ _ h.hg];rfl
theorem SetAt.store {B' : Nat} {C' : List (Int × Int)} {L L' : List Sb} {s1 s2 : Value} (h : SetAt w B g C L r1 r2) (o1 : w.ownsRow B' 183 2 s1 C'.length (cellsE C')) (o2 : w.ownsRow B' 122 3 s2 L'.length (cellsS L')) (hB : B<=B')
  (l1 : C'.length<=8) (l2 : L'.length<=6) : SetAt ((w.setCell ⟨g,0,none⟩ s1).setCell ⟨g,1,none⟩ s2) B g C' L' s1 s2:=by
 have h0:=heap_setCell_self h.hg 0 s1
 refine ⟨by rw [heap_setCell_self h0 1 s2];rfl,own_base ?_ hB,own_base ?_ hB,l1,l2⟩
 ·exact own_setCell (own_setCell o1 h.hg (by decide)) h0 (by decide)
 ·exact own_setCell (own_setCell o2 h.hg (by decide)) h0 (by decide)
theorem set_other {w3 W2 : World} {n : Nat} {o : Obj} (h : W2.heap[n]? = some o) (hb : Below W2.heap.size W2 w3) (u v : Value) : ((w3.setCell ⟨n + 1,0,none⟩ u).setCell ⟨n + 1,1,none⟩ v).heap[n]? = some o:=by
 rw [Below.heap_setCell _ _ _ _ (by simp),Below.heap_setCell _ _ _ _ (by simp)]
 exact heap_later hb h
theorem result_set (tmps : Array Value) (w : World) (g : Nat) (v1 v2 : Value) (h4 : tmps.getD 4 undef = .pointer (some ⟨g,0,none⟩)) (hg : w.heap[g]? = some (.cells #[v1,v2] 117 (0,0))) :
  (results Tryz.f166 tmps).run Tryz.prog w = .ok (.agg #[v1,v2]) w:=by
 have hl:=run_loadVar_row (P:=Tryz.prog) w g 117 117 #[v1,v2] (0,0) _ hg Tryz.underlying117 rfl info38
 have h4' : tmps[4]?.getD undef = .pointer (some ⟨g,0,none⟩):=by simpa using h4
 simp [results,Tryz.results166,h4',asAddr,hl]
theorem Of_any (Z : Nat->Prop) (p : Nat) (node : Int) (L : List MuV) (vh : Value) (key : ByteArray) (w : World) (h : ModIn Z w p node L vh) (hl : L.length<=1000000000) :
  Calls Tryz.prog 166 #[.pointer (some ⟨p,0,none⟩),.string key] w fun e w'=>∃ r1 r2,e = .returned (.agg #[r1,r2])/\w'.ownsRow w.heap.size 183 2 r1 (ofM node (L.map MuV.x) key).C.length (cellsE (ofM node (L.map MuV.x) key).C)/\w'.ownsRow w.heap.size 122 3 r2 (ofM node (L.map MuV.x) key).L.length (cellsS (ofM node (L.map MuV.x) key).L)/\Below w.heap.size w w'/\(ofM node (L.map MuV.x) key).C.length<=8/\(ofM node (L.map MuV.x) key).L.length<=6:=by
 obtain ⟨ah,ch,rfl,hA⟩:=h.cells
 have c0 : w.cell? ⟨p,0,none⟩ = some (.int .i64 node):=by rw [cell_of_row _ _ _ _ _ _ h.hp];rfl
 have c1 : w.cell? ⟨p,1,none⟩ = some (.slice ah L.length ch):=by rw [cell_of_row _ _ _ _ _ _ h.hp];rfl
 have HM : Hid (ModIn Z w p node L (.slice ah L.length ch)):=h
 have hl1 : (L.length : Int)<=1000000000:=by omega
 clear h
 go_enter Tryz.func166,Tryz.ntmps166
 go_wp2_with fail
 obtain ⟨W,hW,HB,HG4,HG5⟩ : ∃ W,((w.alloc (.cells #[.slice none 0 0,.slice none 0 0] 117)).alloc (.cells #[.slice none 0 0,.slice none 0 0] 117)) = W/\Hid (Below w.heap.size w W) /\
   Hid (W.heap[w.heap.size]? = some (.cells nilSet 117 (0,0)))/\Hid (W.heap[w.heap.size + 1]? = some (.cells nilSet 117 (0,0))) :=
  ⟨_,rfl,((Below.refl _ _).alloc (Nat.le_refl _) _).alloc (by simp) _,(Below.heap_alloc _ _ _ (by simp)).trans (heap_alloc_new w _),heap_alloc2_new w _ _⟩
 rw [hW]
 clear hW
 go_loopw [6] (fun i wr=>∃ (k : Nat) (r1 r2 : Value),k<=L.length/\i = .int .i64 k/\Hid (wr.heap[w.heap.size]? = some (.cells nilSet 117 (0,0)))/\Hid (SetAt wr w.heap.size (w.heap.size + 1) (ofTo node (L.map MuV.x) key k).C (ofTo node (L.map MuV.x) key k).L r1 r2)/\Below w.heap.size w wr) (fun i _=>L.length - (intOf i).toNat)
 case atStart=>exact ⟨0,_,_,Nat.zero_le _,rfl,HG4,SetAt.nil HG5.out,HB.out⟩
 case round =>
  obtain ⟨k,r1,r2,hk,rfl,hg4,hset,hb⟩:=hrel
  have hsz:=hb.size
  have d0:=cell_later hb c0
  have d1:=cell_later hb c1
  by_cases hlt : k < L.length
  ·obtain ⟨g,rfl,hr⟩:=hA (by omega)
   obtain ⟨f0,f1,f2,f3⟩:=hr k hlt
   have e0:=cell_later hb f0
   have e1:=cell_later hb f1
   have e2:=cell_later hb f2
   have e3:=cell_later hb f3
   have q1 : (k : Int) < (L.length : Int):=by omega
   have q0 : (0 : Int)<=(k : Int):=by omega
   have HS : Hid (ofTo node (L.map MuV.x) key (k + 1) = if ((muv L k).x.k.toList == key.toList) = true then stepM node (ofTo node (L.map MuV.x) key k) k (muv L k).x else ofTo node (L.map MuV.x) key k):=by
    show _ = _
    rw [<- mu_map L k hlt];rfl
   obtain ⟨S,hS⟩ : ∃ S,ofTo node (L.map MuV.x) key k = S:=⟨_,rfl⟩
   have hrc:=HM.out.rc (muv L k) (by rw [muv_get L k hlt];exact List.getElem_mem _)
   obtain ⟨y,hy⟩ : ∃ y,muv L k = y:=⟨_,rfl⟩
   rw [hy] at e0 e1 e2 e3 HS hrc
   rw [hS] at HS hset
   obtain ⟨⟨yd,yk,yv,yc⟩,ys⟩:=y
   replace hrc : Rd w ys yc:=hrc
   replace e0 : _ = some (Value.bool yd):=e0
   replace e1 : _ = some (Value.string yk):=e1
   replace e2 : _ = some (Value.string yv):=e2
   replace e3 : _ = some ys:=e3
   replace HS : Hid (ofTo node (L.map MuV.x) key (k + 1) = if (yk.toList == key.toList) = true then stepM node S k ⟨yd,yk,yv,yc⟩ else S):=HS
   obtain ⟨ay,cs,hys⟩:=hrc.shape
   subst hys
   have HRC : Hid (Rd w (.slice ay yc.length cs) yc):=hrc
   clear hr f0 f1 f2 f3 hA hy hS hrc
   go_upto_region 6 with (fail)
   obtain ⟨W2,hW,hb2,t0,t1,t2,t3,hbX⟩ : ∃ W2,(wr.alloc (.cells #[.bool yd,.string yk,.string yv,.slice ay yc.length cs] 191)) = W2/\Below w.heap.size w W2/\W2.cell? ⟨wr.heap.size,0,none⟩ = some (.bool yd)/\W2.cell? ⟨wr.heap.size,1,none⟩ = some (.string yk)/\W2.cell? ⟨wr.heap.size,2,none⟩ = some (.string yv)/\W2.cell? ⟨wr.heap.size,3,none⟩ = some (.slice ay yc.length cs)/\Below wr.heap.size wr W2 :=
    ⟨_,rfl,hb.alloc hsz _,by simp [go_sem],by simp [go_sem],by simp [go_sem],by simp [go_sem],(Below.refl _ _).alloc (Nat.le_refl _) _⟩
   rw [hW]
   have HG : Hid (W2.heap[w.heap.size]? = some (.cells nilSet 117 (0,0))):=heap_later hbX hg4.out
   have HT : Hid (SetAt W2 w.heap.size (w.heap.size + 1) S.C S.L r1 r2):=hset.out.below hbX
   have x0:=cell_later hbX d0
   have HRW : Hid (Rd W2 (.slice ay yc.length cs) yc):=HRC.out.below hb2
   have hs2:=hb2.size
   clear hW hbX e0 e1 e2 e3 d0 d1 c0 c1 hg4 hset hb HRC
   by_cases hkey : (yk.toList == key.toList) = true
   rotate_left
   ·have hkey' : (yk.toList == key.toList) = false:=by simpa using hkey
    have HE : Hid (ofTo node (L.map MuV.x) key (k + 1) = S):=by show _ = _;rw [HS.out,if_neg hkey]
    clear hkey
    go_wp2_with fail
    go_roundw
    case rel=>exact ⟨k + 1,r1,r2,by omega,by go_num,HG,by rw [HE.out];exact HT,hb2⟩
    case measure=>simp [intOf];omega
   have HE : Hid (ofTo node (L.map MuV.x) key (k + 1) = stepM node S k ⟨yd,yk,yv,yc⟩):=by show _ = _;rw [HS.out,if_pos hkey]
   have g0:=HT.out.c0
   have g1:=HT.out.c1
   obtain ⟨a1,k1,hr1,_⟩:=own_cells HT.out.o1
   obtain ⟨a2,k2,hr2,_⟩:=own_cells HT.out.o2
   subst hr1
   subst hr2
   have HC1 : Hid (Rd W2 (.slice a1 S.C.length k1) S.C):=Rd.own HT.out.o1 rfl
   have HC2 : Hid (RdS W2 (.slice a2 S.L.length k2) S.L):=RdS.own HT.out.o2 rfl
   have fz : ∀ o,W2.frozen? ⟨w.heap.size + 1,o,none⟩ = false:=fun o=>frozen_of_row _ _ _ _ _ HT.out.hg
   obtain ⟨q,hq0⟩ : ∃ q,outM node S k ⟨yd,yk,yv,yc⟩ = q:=⟨_,rfl⟩
   have HQ : Hid (stepM node S k ⟨yd,yk,yv,yc⟩ = if q.2.1 = [] then Se.nil else ⟨q.1,q.2.1⟩):=by show _ = _;unfold stepM;rw [hq0]
   have HQ0 : Hid (outM node S k ⟨yd,yk,yv,yc⟩ = q):=hq0
   clear hq0
   go_upto_if 29 with fail
   go_cut [] from 30 to 51 (fun wx=>∃ s1 s2,Hid (SetAt wx w.heap.size (w.heap.size + 1) q.1 q.2.1 s1 s2)/\Hid (wx.heap[w.heap.size]? = some (.cells nilSet 117 (0,0)))/\Below w.heap.size w wx)
   case first =>
    cases yd
    ·have HO : Hid (updF S.C yc S.L node ((k : Int) + 1) yv = q):=HQ0.out
     clear HQ0
     have HC : Hid (∀ w',Below W2.heap.size W2 w'->Calls Tryz.prog 173 #[.agg #[.slice a1 S.C.length k1,.slice a2 S.L.length k2],.slice ay yc.length cs,.int .i64 node,.int .i64 (IntKind.i64.wrap ((k : Int) + 1)),.string yv] w' fun e w''=>∃ s1 s2,e = .returned (.tuple #[.agg #[s1,s2],.int .i64 q.2.2])/\w''.ownsRow W2.heap.size 183 2 s1 q.1.length (cellsE q.1)/\w''.ownsRow W2.heap.size 122 3 s2 q.2.1.length (cellsS q.2.1)/\Below w'.heap.size w' w''/\q.1.length<=8/\q.2.1.length<=6):=by
      intro w' hb'
      rw [wrap_in ((k : Int) + 1) (by omega) (by omega)]
      refine (refUpdate_u _ _ _ _ _ _ _ _ _ w' (HC1.out.below hb') (HC2.out.below hb') (HRW.out.below hb')).mono ?_
      intro e w3 hq
      have hq2:=hq.upd
      rw [HO.out] at hq2
      obtain ⟨s1,s2,he,o1,o2,hb3,l1,l2⟩:=hq2
      exact ⟨s1,s2,he,own_base o1 hb'.size,own_base o2 hb'.size,hb3,l1,l2⟩
     clear HO
     have HP : Hid (∀ w3 s1 s2,w3.ownsRow W2.heap.size 183 2 s1 q.1.length (cellsE q.1)->w3.ownsRow W2.heap.size 122 3 s2 q.2.1.length (cellsS q.2.1)->Below W2.heap.size W2 w3->q.1.length<=8->q.2.1.length<=6 ->
       w3.cell? ⟨w.heap.size + 1,0,none⟩ = some (.slice a1 S.C.length k1)/\w3.cell? ⟨w.heap.size + 1,1,none⟩ = some (.slice a2 S.L.length k2)/\(∀ o,w3.frozen? ⟨w.heap.size + 1,o,none⟩ = false) /\
       Hid (SetAt ((w3.setCell ⟨w.heap.size + 1,0,none⟩ s1).setCell ⟨w.heap.size + 1,1,none⟩ s2) w.heap.size (w.heap.size + 1) q.1 q.2.1 s1 s2) /\
       Hid (((w3.setCell ⟨w.heap.size + 1,0,none⟩ s1).setCell ⟨w.heap.size + 1,1,none⟩ s2).heap[w.heap.size]? = some (.cells nilSet 117 (0,0))) /\
       Hid (Below w.heap.size w ((w3.setCell ⟨w.heap.size + 1,0,none⟩ s1).setCell ⟨w.heap.size + 1,1,none⟩ s2))):=by
      intro w3 s1 s2 o1 o2 hb3 l1 l2
      have HT3:=HT.out.below hb3
      exact ⟨HT3.c0,HT3.c1,fun o=>frozen_of_row _ _ _ _ _ HT3.hg,HT3.store o1 o2 hs2 l1 l2,set_other HG.out hb3 _ _,((hb2.trans (hb3.mono hs2)).setCell (by simp) _).setCell (by simp) _⟩
     go_upto_region 9 with (fail)
     go_region_with (go_at_call 173;refine (HC.out _ (by repeat (first | exact Below.refl _ _ | refine Below.drew ?_ | refine below_drewN ?_ _))).mono ?_;rintro e w3 ⟨s1,s2,rfl,o1,o2,hb3',l1,l2⟩;have hb3 : Below W2.heap.size W2 w3:=(by repeat (first | exact hb3' | exact Below.refl _ _ | refine Below.trans ?_ hb3' | refine Below.drew ?_ | refine below_drewN ?_ _));obtain ⟨b1,m1,hs1,_⟩:=own_cells o1;obtain ⟨b2,m2,hs2',_⟩:=own_cells o2;subst hs1;subst hs2';obtain ⟨v0,v1,z3,HF,HF2,HF3⟩:=HP.out _ _ _ o1 o2 hb3 l1 l2;clear o1 o2 hb3 hb3' l1 l2)
     all_goals
      clear hb2 x0 g0 g1 fz t0 t1 t2 t3
      go_wp2_with fail
      go_meet
      exact ⟨_,_,HF,HF2,HF3.out⟩
    ·have HO : Hid (disF S.C yc S.L = q):=HQ0.out
     clear HQ0
     go_wp2_with fail
     refine (refDiscard_u _ _ _ _ _ _ _ HC1.out HC2.out HRW.out).mono ?_
     intro e w3 hq
     have hq2:=hq.dis
     rw [HO.out] at hq2
     obtain ⟨s1,s2,rfl,o1,o2,hb3,l1,l2⟩:=hq2
     obtain ⟨b1,m1,hs1,_⟩:=own_cells o1
     obtain ⟨b2,m2,hs2',_⟩:=own_cells o2
     subst hs1
     subst hs2'
     have HT3:=HT.out.below hb3
     have v0:=HT3.c0
     have v1:=HT3.c1
     have z3 : ∀ o,w3.frozen? ⟨w.heap.size + 1,o,none⟩ = false:=fun o=>frozen_of_row _ _ _ _ _ HT3.hg
     have HF : Hid (SetAt ((w3.setCell ⟨w.heap.size + 1,0,none⟩ (.slice b1 q.1.length m1)).setCell ⟨w.heap.size + 1,1,none⟩ (.slice b2 q.2.1.length m2)) w.heap.size (w.heap.size + 1) q.1 q.2.1 (.slice b1 q.1.length m1) (.slice b2 q.2.1.length m2)):=HT3.store o1 o2 hs2 l1 l2
     have HF2 : Hid (((w3.setCell ⟨w.heap.size + 1,0,none⟩ (.slice b1 q.1.length m1)).setCell ⟨w.heap.size + 1,1,none⟩ (.slice b2 q.2.1.length m2)).heap[w.heap.size]? = some (.cells nilSet 117 (0,0))):=by
      show _ = _
      rw [Below.heap_setCell _ _ _ _ (by simp),Below.heap_setCell _ _ _ _ (by simp)]
      exact heap_later hb3 HG.out
     have HF3 : Hid (Below w.heap.size w ((w3.setCell ⟨w.heap.size + 1,0,none⟩ (.slice b1 q.1.length m1)).setCell ⟨w.heap.size + 1,1,none⟩ (.slice b2 q.2.1.length m2))):=((hb2.trans (hb3.mono hs2)).setCell (by simp) _).setCell (by simp) _
     clear HT3 o1 o2 hq hb3 hb2 l1 l2 x0 g0 g1 fz t0 t1 t2 t3
     go_wp2_with fail
     go_meet
     exact ⟨_,_,HF,HF2,HF3.out⟩
   case rest =>
   obtain ⟨s1,s2,HS4,HG4',hb4⟩:=hcut
   have v1:=HS4.out.c1
   obtain ⟨b1,m1,hs1,_⟩:=own_cells HS4.out.o1
   obtain ⟨b2,m2,hs2',_⟩:=own_cells HS4.out.o2
   subst hs1
   subst hs2'
   have v0:=HS4.out.c0
   clear hb2 x0 g0 g1 fz t0 t1 t2 t3 HT HG HC1 HC2 HRW HQ0
   by_cases hn : q.2.1 = []
   ·have HN : Hid (ofTo node (L.map MuV.x) key (k + 1) = Se.nil):=by show _ = _;rw [HE.out,HQ.out,if_pos hn]
    have hlen : q.2.1.length = 0:=by rw [hn];rfl
    rw [hlen] at v1
    have z3 : ∀ o,wc.frozen? ⟨w.heap.size + 1,o,none⟩ = false:=fun o=>frozen_of_row _ _ _ _ _ HS4.out.hg
    have HF : Hid (SetAt ((wc.setCell ⟨w.heap.size + 1,0,none⟩ (.slice none 0 0)).setCell ⟨w.heap.size + 1,1,none⟩ (.slice none 0 0)) w.heap.size (w.heap.size + 1) [] [] (.slice none 0 0) (.slice none 0 0)) :=
     HS4.out.store (World.ownsRow_nil _ _ _ _) (World.ownsRow_nil _ _ _ _) (Nat.le_refl _) (by simp) (by simp)
    have HF2 : Hid (((wc.setCell ⟨w.heap.size + 1,0,none⟩ (.slice none 0 0)).setCell ⟨w.heap.size + 1,1,none⟩ (.slice none 0 0)).heap[w.heap.size]? = some (.cells nilSet 117 (0,0))):=set_other HG4'.out (Below.refl _ _) _ _
    have HF3 : Hid (Below w.heap.size w ((wc.setCell ⟨w.heap.size + 1,0,none⟩ (.slice none 0 0)).setCell ⟨w.heap.size + 1,1,none⟩ (.slice none 0 0))):=(hb4.setCell (by simp) _).setCell (by simp) _
    clear hb4 HS4 HG4'
    go_wp2_with fail
    go_roundw
    case rel=>exact ⟨k + 1,_,_,by omega,by go_num,HF2,by rw [HN.out];exact HF,HF3.out⟩
    case measure=>simp [intOf];omega
   ·have HN : Hid (ofTo node (L.map MuV.x) key (k + 1) = ⟨q.1,q.2.1⟩):=by show _ = _;rw [HE.out,HQ.out,if_neg hn]
    have hlen : 0 < q.2.1.length:=List.length_pos_iff.2 hn
    obtain ⟨m,hm⟩ : ∃ m,q.2.1.length = m:=⟨_,rfl⟩
    rw [hm] at v1 hlen
    have hmi : ((m : Int) == 0) = false:=by simp;omega
    clear hn
    go_wp2_with fail
    go_roundw
    case rel=>exact ⟨k + 1,_,_,by omega,by go_num,HG4',by rw [HN.out];exact HS4,hb4⟩
    case measure=>simp [intOf];omega
  ·have q1 : ¬ (k : Int) < (L.length : Int):=by omega
   have hkl : k = L.length:=by omega
   rw [hkl] at hset
   have HR : Hid (ofTo node (L.map MuV.x) key L.length = ofM node (L.map MuV.x) key):=by show _ = ofTo _ _ _ (L.map MuV.x).length;simp
   rw [HR.out] at hset
   have g0:=hset.out.c0
   have g1:=hset.out.c1
   have HRES : Hid (wr.heap[w.heap.size]? = some (.cells nilSet 117 (0,0))):=hg4
   have hb5 : Below w.heap.size w (wr.setRow w.heap.size #[r1,r2]):=below_setRow hb (Nat.le_refl _) _
   clear hA hkl hg4 c0 c1 d0
   obtain ⟨a1,k1,hr1,_⟩:=own_cells hset.out.o1
   obtain ⟨a2,k2,hr2,_⟩:=own_cells hset.out.o2
   subst hr1
   subst hr2
   obtain ⟨n1,hn1⟩ : ∃ n,(ofM node (L.map MuV.x) key).C.length = n:=⟨_,rfl⟩
   obtain ⟨n2,hn2⟩ : ∃ n,(ofM node (L.map MuV.x) key).L.length = n:=⟨_,rfl⟩
   have HS5 : Hid (SetAt wr w.heap.size (w.heap.size + 1) (ofM node (L.map MuV.x) key).C (ofM node (L.map MuV.x) key).L (.slice a1 n1 k1) (.slice a2 n2 k2)):=by rw [<- hn1,<- hn2];exact hset
   rw [hn1] at g0 hb5
   rw [hn2] at g1 hb5
   clear hset hn1 hn2
   go_wp2_with (first | (refine wpList_store_row rfl 117 _ _ rfl w.heap.size #[.slice a1 n1 k1,.slice a2 n2 k2] rfl rfl 117 nilSet HRES.out info38 rfl (one_two _ _ _ _ _ _) ?_))
   refine bodyPost_ret (result_set _ _ w.heap.size _ _ rfl (setRow_heap _ _ _ _ _ _ HRES.out)) rfl ⟨_,_,rfl,own_setRow HS5.out.o1 HRES.out (by decide),own_setRow HS5.out.o2 HRES.out (by decide),hb5,HS5.out.l1,HS5.out.l2⟩
end Go.Proofs.YtilkdeghknjjhaaGreatDoor
