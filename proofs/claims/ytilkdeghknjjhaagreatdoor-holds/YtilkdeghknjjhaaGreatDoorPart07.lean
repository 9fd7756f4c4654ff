/- A part of the proof. -/
import Derived.Test.YtilkdeghknjjhaaGreatDoorPart05
import Derived.Lib.QuietBelow
set_option maxRecDepth 20000
set_option maxHeartbeats 3200000
set_option linter.unusedVariables false
namespace Go.Proofs.YtilkdeghknjjhaaGreatDoor
open Go.RowKit M
variable {w w' : World} {e : Ending}
theorem refdot_any (n c : Int) (w : World) :
  Calls Tryz.prog 217 #[.int .i64 n,.int .i64 c] w fun e w'=>e = .returned (.bool (dotB n c))/\w' = w:=by
 by_cases h1 : 0<=n
 ·by_cases h2 : n<=15
  ·by_cases h3 : 1<=c
   ·by_cases h4 : c<=4611686018427387904
    ·have e : dotB n c = true:=by simp [dotB,h1,h2,h3,h4]
     rw [e];clear e
     go_enter Tryz.func217,Tryz.ntmps217
     go_wp2
     go_ret
     exact ⟨rfl,rfl⟩
    ·have e : dotB n c = false:=by simp [dotB,h4]
     rw [e];clear e
     go_enter Tryz.func217,Tryz.ntmps217
     go_wp2
     go_ret
     exact ⟨rfl,rfl⟩
   ·have e : dotB n c = false:=by simp [dotB,h3]
    rw [e];clear e
    go_enter Tryz.func217,Tryz.ntmps217
    go_wp2
    go_ret
    exact ⟨rfl,rfl⟩
  ·have e : dotB n c = false:=by simp [dotB,h2]
   rw [e];clear e
   go_enter Tryz.func217,Tryz.ntmps217
   go_wp2
   go_ret
   exact ⟨rfl,rfl⟩
 ·have e : dotB n c = false:=by simp [dotB,h1]
  rw [e];clear e
  go_enter Tryz.func217,Tryz.ntmps217
  go_wp2
  go_ret
  exact ⟨rfl,rfl⟩
theorem one_arr (F : Nat->Int) : (arr F).all (·.oneCell') = true:=by
 rw [Array.all_eq_true_iff_forall_mem]
 intro x hx
 simp [arr] at hx
 obtain ⟨n,_,rfl⟩:=hx
 rfl
def cN (l : List (Int × Int)) : Nat->Int:=fun n=>cS l (n : Int)
theorem results37 (tmps : Array Value) (w : World) (g : Nat) (F : Nat->Int) (b : Bool) (h2 : tmps.getD 2 undef = .pointer (some ⟨g,0,none⟩)) (h3 : tmps.getD 3 undef = .bool b) (hg : w.heap[g]? = some (.cells (arr F) 241 (0,0))) :
  (results Tryz.f174 tmps).run Tryz.prog w = .ok (.tuple #[.agg (arr F),.bool b]) w:=by
 have hl:=run_loadVar_row (P:=Tryz.prog) w g 241 241 (arr F) (0,0) _ hg Tryz.underlying241 rfl (by rw [arr_size];exact info61)
 have h2' : tmps[2]?.getD undef = .pointer (some ⟨g,0,none⟩):=by simpa using h2
 have h3' : tmps[3]?.getD undef = .bool b:=by simpa using h3
 simp [results,Tryz.results174,h2',h3',asAddr,hl]
def zF : Nat->Int:=fun _=>0
theorem zlit : (arr zF) = #[.int .i64 0,.int .i64 0,.int .i64 0,.int .i64 0,.int .i64 0,.int .i64 0,.int .i64 0,.int .i64 0,.int .i64 0,.int .i64 0,.int .i64 0,.int .i64 0,.int .i64 0,.int .i64 0,.int .i64 0,.int .i64 0]:=rfl
theorem two_new (w : World) (A B : Array Value) : ((w.alloc (.cells A 241)).alloc (.cells B 241)).heap[w.heap.size]? = some (.cells A 241 (0,0))/\((w.alloc (.cells A 241)).alloc (.cells B 241)).heap[w.heap.size + 1]? = some (.cells B 241 (0,0)) :=
 ⟨heap_alloc2_old w _ _,heap_alloc2_new w _ _⟩
def RC (w : World) (l : List (Int × Int)) (e : Ending) (w' : World) : Prop :=
 ∃ ok F,e = .returned (.tuple #[.agg (arr F),.bool ok])/\(ok = true ↔ Clk l)/\(ok = true->F = cN l)/\Below w.heap.size w w'
theorem RC.no {l : List (Int × Int)} (he : e = .returned (.tuple #[.agg (arr zF),.bool false])) (hn : ¬ Clk l) (hb : Below w.heap.size w w') : RC w l e w' :=
 ⟨false,zF,he,⟨fun h=>Bool.noConfusion h,fun h=>absurd h hn⟩,fun h=>Bool.noConfusion h,hb⟩
theorem RC.yes {l : List (Int × Int)} (he : e = .returned (.tuple #[.agg (arr (cN l)),.bool true])) (hn : Clk l) (hb : Below w.heap.size w w') : RC w l e w' :=
 ⟨true,cN l,he,⟨fun _=>hn,fun _=>rfl⟩,fun _=>rfl,hb⟩
theorem refClock_any (v : Value) (l : List (Int × Int)) (w : World) (hrd : Rd w v l) :
  Calls Tryz.prog 174 #[v] w fun e w'=>RC w l e w':=by
 obtain ⟨a,cap,rfl,hlc,hc,hA⟩:=hrd
 have hl1 : (l.length : Int)<=9223372036854775807:=by omega
 clear hlc hc
 have hb2 : ∀ A B : Array Value,Below w.heap.size w ((w.alloc (.cells A 241)).alloc (.cells B 241)):=fun A B=>((Below.refl _ _).alloc (Nat.le_refl _) _).alloc (by simp) _
 by_cases h8 : 8 < l.length
 ·have HN : Hid (¬ Clk l):=fun h=>by have:=h.1;omega
  have HT : Hid (∀ A B : Array Value,_):=two_new w
  have HB : Hid (∀ A B : Array Value,Below w.heap.size w ((w.alloc (.cells A 241)).alloc (.cells B 241))):=hb2
  clear hb2
  go_enter Tryz.func174,Tryz.ntmps174
  go_wp2_with (first
   | (refine wpList_load_row rfl 241 _ rfl (w.heap.size + 1) rfl 241 (arr zF) (0,0) _ (HT.out _ (arr zF)).2 Tryz.underlying241 rfl (by rw [arr_size];exact info61) ?_)
   | (refine wpList_store_row rfl 241 _ _ rfl w.heap.size (arr zF) rfl rfl 241 (arr zF) (HT.out (arr zF) (arr zF)).1 (by rw [arr_size];exact info61) rfl (one_arr _) ?_))
  refine bodyPost_ret (results37 _ _ w.heap.size zF false rfl rfl (setRow_heap _ _ _ _ _ _ (HT.out (arr zF) (arr zF)).1)) rfl (RC.no rfl HN.out (below_setRow (HB.out _ _) (Nat.le_refl _) _))
 ·have HT : Hid (∀ A B : Array Value,_):=two_new w
  have HB : Hid (∀ A B : Array Value,Below w.heap.size w ((w.alloc (.cells A 241)).alloc (.cells B 241))):=hb2
  clear hb2
  go_enter Tryz.func174,Tryz.ntmps174
  go_wp2_with fail
  go_loopw [5,6] (fun q i wr=>∃ (k : Nat) (z : Int),k<=l.length/\i = .int .i64 k/\q = .int .i64 z/\Hid ((k = 0->z = -1)/\(0 < k->z = (ent l (k - 1)).1))/\Hid (Up l k)/\-1<=z /\
    wr.heap[w.heap.size]? = some (.cells (arr zF) 241 (0,0))/\wr.heap[w.heap.size + 1]? = some (.cells (arr (cN (l.take k))) 241 (0,0))/\Below w.heap.size w wr)
   (fun _ i _=>l.length - (intOf i).toNat)
  case atStart=>exact ⟨0,-1,Nat.zero_le _,rfl,rfl,⟨fun _=>rfl,fun h=>by omega⟩,Up.zero l,by omega,(HT.out (arr zF) (arr zF)).1,(HT.out (arr zF) (arr zF)).2,HB.out _ _⟩
  case round =>
   obtain ⟨k,z,hk,rfl,rfl,hz,hu,hz1,hw0,hw1,hb⟩:=hrel
   clear HT HB
   have hsz:=hb.size
   by_cases hlt : k < l.length
   ·obtain ⟨b,off,rfl,hr⟩:=hA (by omega)
    have c1 : wr.cell? ⟨b,off + k * 2,none⟩ = some (.int .i64 (ent l k).1):=cell_later hb (hr k hlt).1
    have c2 : wr.cell? ⟨b,off + k * 2 + 1,none⟩ = some (.int .i64 (ent l k).2):=cell_later hb (hr k hlt).2
    clear hA hr
    have HW0 : Hid (wr.heap[w.heap.size]? = some (.cells (arr zF) 241 (0,0))):=hw0
    have HW1 : Hid (wr.heap[w.heap.size + 1]? = some (.cells (arr (cN (l.take k))) 241 (0,0))):=hw1
    by_cases hgood : z < (ent l k).1/\(ent l k).1 < 16/\1<=(ent l k).2/\(ent l k).2<=4611686018427387904
    ·obtain ⟨g1,g2,g3,g4⟩:=hgood
     obtain ⟨nd,hnd⟩ : ∃ nd : Nat,(ent l k).1 = nd:=⟨(ent l k).1.toNat,by omega⟩
     have hnd16 : nd < 16:=by omega
     have hUp : Hid (Up l (k + 1)):=Up.succ hu.out ⟨by omega,by omega,g3,g4⟩ (fun h=>by have:=hz.out.2 h;omega)
     have HN : Hid ((ent l k).1 = nd):=hnd
     rw [hnd] at c1 g1 g2
     obtain ⟨q,hq⟩ : ∃ q,(ent l k).2 = q:=⟨_,rfl⟩
     rw [hq] at c2 g3 g4
     have HQ : Hid ((ent l k).2 = q):=hq
     have ca : wr.cell? ⟨w.heap.size + 1,nd,none⟩ = some (.int .i64 (cN (l.take k) nd)):=by
      rw [cell_of_row _ _ _ _ _ _ hw1];exact arr_at _ _ hnd16
     have cf : wr.frozen? ⟨w.heap.size + 1,nd,none⟩ = false:=frozen_of_row _ _ _ _ _ hw1
     clear hw0 hw1 hnd hq
     go_wp2
     go_roundw
     case rel =>
      refine ⟨k + 1,nd,by omega,by go_num,rfl,⟨fun h=>by omega,fun _=>HN.out.symm⟩,hUp,by omega,?_,?_,hb.setCell (by simp) _⟩
      ·rw [heap_setCell_other _ _ _ _ (by simp)];exact HW0.out
      ·rw [heap_setCell_same _ _ _ _ _ _ HW1.out]
       congr 2
       refine arr_set _ _ _ _ (fun n=>?_)
       unfold cN
       rw [take_snoc' l k hlt,cS_append,HN.out,HQ.out]
       by_cases e : n = nd
       ·subst e
        rw [if_pos rfl,if_pos rfl]
        have h0 : cS (l.take k) (n : Int) = 0:=cS_none (fun x hx=>by
         obtain ⟨i,hi,rfl⟩:=List.getElem_of_mem hx
         have hi2 : i < k:=by rw [List.length_take] at hi;omega
         have hu2:=(US.of_up (l:=l.take (k + 1)) (by
          rw [List.length_take,Nat.min_eq_left (by omega)]
          intro j hj
          have h1:=hUp.out j hj
          have e1 : ∀ t,t < k + 1->ent (l.take (k + 1)) t = ent l t:=fun t ht=>by simp [ent,List.getD,ht]
          rw [e1 j hj]
          exact ⟨h1.1,fun h=>by rw [e1 (j - 1) (by omega)];exact h1.2 h⟩)).1
         have h3:=List.pairwise_iff_getElem.1 hu2 i k (by simp;omega) (by simp;omega) hi2
         have h4:=HN.out
         rw [ent_get l k hlt] at h4
         simp only [List.getElem_take] at h3 ⊢
         omega)
        rw [h0];omega
       ·rw [if_neg (by omega),if_neg e]
        have:=cS_nonneg (l.take k) n
        omega
     case measure=>simp [intOf];omega
    ·have HNC : Hid (¬ Clk l):=fun h=>hgood (by
      have h1:=(h.2 k hlt)
      refine ⟨?_,by have:=h1.1.2.1;omega,h1.1.2.2.1,h1.1.2.2.2⟩
      by_cases h0 : 0 < k
      ·have:=hz.out.2 h0;have:=h1.2 h0;omega
      ·have:=hz.out.1 (by omega);have:=h1.1.1;omega)
     clear hw0 hw1
     go_wp2_with (first
      | (refine wpList_store_row rfl 241 _ _ rfl w.heap.size (arr zF) rfl rfl 241 (arr zF) HW0.out (by rw [arr_size];exact info61) rfl (one_arr _) ?_))
     all_goals
      (refine bodyPost_ret (results37 _ _ w.heap.size zF false rfl rfl (setRow_heap _ _ _ _ _ _ HW0.out)) rfl (RC.no rfl HNC.out (below_setRow hb (Nat.le_refl _) _)))
   ·have hkk : k = l.length:=by omega
    have HC : Hid (Clk l):=⟨by omega,hkk ▸ hu.out⟩
    rw [hkk,List.take_length] at hw1
    clear hA
    subst hkk
    go_wp2_with (first
     | (refine wpList_load_row rfl 241 _ rfl (w.heap.size + 1) rfl 241 (arr (cN l)) (0,0) _ hw1 Tryz.underlying241 rfl (by rw [arr_size];exact info61) ?_)
     | (refine wpList_store_row rfl 241 _ _ rfl w.heap.size (arr (cN l)) rfl rfl 241 (arr zF) hw0 (by rw [arr_size];exact info61) (by rw [arr_size,arr_size]) (one_arr _) ?_))
    refine bodyPost_ret (results37 _ _ w.heap.size (cN l) true rfl rfl (setRow_heap _ _ _ _ _ _ hw0)) rfl (RC.yes rfl HC.out (below_setRow hb (Nat.le_refl _) _))
end Go.Proofs.YtilkdeghknjjhaaGreatDoor
namespace Go.Proofs.YtilkdeghknjjhaaGreatDoor
open Go.RowKit M
theorem alloc_lit (w : World) (A : Array Value) : (w.alloc (.cells A 241)).heap[w.heap.size]? = some (.cells A 241 (0,0)):=heap_alloc_new w _
theorem refCovers_any (v : Value) (l : List (Int × Int)) (n c : Int) (w : World) (hrd : Rd w v l) :
  Calls Tryz.prog 218 #[v,.int .i64 n,.int .i64 c] w fun e w'=>∃ r,e = .returned (.bool r)/\(r = true ↔ Clk l/\Dot n c/\c<=cS l n)/\Below w.heap.size w w':=by
 go_enter Tryz.func218,Tryz.ntmps218
 go_wp2_with fail
 refine (refClock_any v l _ hrd).mono ?_
 rintro e w1 ⟨ok,F,rfl,hok,hF,hb⟩
 have hsz:=hb.size
 go_wp2_with (first
  | (refine wpList_store_row rfl 241 _ _ rfl w1.heap.size (arr F) rfl rfl 241 (arr zF) (alloc_lit w1 (arr zF)) (by rw [arr_size];exact info61) (by rw [arr_size,arr_size]) (one_arr _) ?_))
 obtain ⟨w2,hw2,hr2,hb2⟩ : ∃ w2,((w1.alloc (.cells (arr zF) 241)).setRow w1.heap.size (arr F)) = w2/\w2.heap[w1.heap.size]? = some (.cells (arr F) 241 (0,0))/\Below w1.heap.size w1 w2 :=
  ⟨_,rfl,setRow_heap _ _ _ _ _ _ (alloc_lit w1 (arr zF)),below_setRow ((Below.refl _ _).alloc (Nat.le_refl _) _) (Nat.le_refl _) _⟩
 rw [zlit] at hw2
 rw [hw2]
 clear hw2
 have HR2 : Hid (w2.heap[w1.heap.size]? = some (.cells (arr F) 241 (0,0))):=hr2
 have hb12:=hb.trans (hb2.mono hsz)
 have hsz2:=hb12.size
 clear hr2
 refine (refdot_any n c _).mono ?_
 rintro e w3 ⟨rfl,rfl⟩
 cases ok
 ·have HN : Hid (¬ Clk l):=fun h=>Bool.noConfusion (hok.2 h)
  clear hok hF
  go_wp2
  go_ret
  exact ⟨false,rfl,by simp;intro h;exact absurd h HN.out,hb12⟩
 ·have HK : Hid (Clk l):=hok.1 rfl
  have HF : Hid (F = cN l):=hF rfl
  clear hok hF
  by_cases hd : dotB n c = true
  ·have hdd:=(dotB_iff _ _).1 hd
   obtain ⟨m,rfl⟩ : ∃ m : Nat,n = m:=⟨n.toNat,by have:=hdd.1;omega⟩
   have hm : m < 16:=by have:=hdd.2.1;omega
   have HD : Hid (Dot (m : Int) c):=hdd
   rw [hd]
   clear hd hdd
   have c0 : w3.cell? ⟨w1.heap.size,m,none⟩ = some (.int .i64 (F m)):=by rw [cell_of_row _ _ _ _ _ _ HR2.out];exact arr_at _ _ hm
   go_wp2
   go_ret
   have h1 : F m = cS l (m : Int):=by rw [HF.out];rfl
   exact ⟨_,rfl,by simp [HK.out,HD.out,h1],hb12⟩
  ·have hd' : dotB n c = false:=by simpa using hd
   have HD : Hid (¬ Dot n c):=fun h=>hd ((dotB_iff _ _).2 h)
   rw [hd']
   clear hd hd'
   go_wp2
   go_ret
   exact ⟨false,rfl,by simp;intro _ h;exact absurd h HD.out,hb12⟩
theorem bth_cN {l m : List (Int × Int)} (hl : US l) (hm : US m) : entsTo (bth (cN l) (cN m) 16) 16 = jn [l,m]:=by
 have e : ∀ n,n < 16->bth (cN l) (cN m) 16 n = apAll [l,m] [l,m].length n:=by
  intro n hn
  rw [apAll_eq]
  unfold bth cN
  rw [if_pos hn]
  have:=cS_nonneg l n
  simp only [List.length_cons,List.length_nil,mxS,List.getD_cons_succ,List.getD_cons_zero]
  omega
 have key : ∀ (F G : Nat->Int) k,(∀ n,n < k->F n = G n)->entsTo F k = entsTo G k:=by
  intro F G k
  induction k with
  | zero=>intro _;rfl
  | succ k ih =>
   intro h
   unfold entsTo
   rw [ih (fun n hn=>h n (by omega)),h k (by omega)]
 exact key _ _ 16 e
theorem refJoin_any (v u : Value) (l m : List (Int × Int)) (w : World) (hv : Rd w v l) (hu : Rd w u m) :
  Calls Tryz.prog 221 #[v,u] w fun e w'=>JoinEnd w l m e w'/\Below w.heap.size w w':=by
 go_enter Tryz.func221,Tryz.ntmps221
 go_wp2_with fail
 refine (refClock_any v l _ hv).mono ?_
 rintro e w1 ⟨ok,F,rfl,hok,hF,hb⟩
 have hsz:=hb.size
 go_wp2_with (first
  | (refine wpList_store_row rfl 241 _ _ rfl w1.heap.size (arr F) rfl rfl 241 (arr zF) (alloc_lit w1 (arr zF)) (by rw [arr_size];exact info61) (by rw [arr_size,arr_size]) (one_arr _) ?_))
 obtain ⟨w2,hw2,hr2,hb2⟩ : ∃ w2,((w1.alloc (.cells (arr zF) 241)).setRow w1.heap.size (arr F)) = w2/\w2.heap[w1.heap.size]? = some (.cells (arr F) 241 (0,0))/\Below w1.heap.size w1 w2 :=
  ⟨_,rfl,setRow_heap _ _ _ _ _ _ (alloc_lit w1 (arr zF)),below_setRow ((Below.refl _ _).alloc (Nat.le_refl _) _) (Nat.le_refl _) _⟩
 rw [zlit] at hw2
 rw [hw2]
 clear hw2
 have hb12:=hb.trans (hb2.mono hsz)
 have hsz2:=hb12.size
 refine (refClock_any u m _ (hu.below hb12)).mono ?_
 rintro e w3 ⟨ok2,G,rfl,hok2,hG,hb3⟩
 have hr3:=(hb3.block _ (Array.getElem?_eq_some_iff.1 hr2).1).trans hr2
 have hlt3 : w1.heap.size < w3.heap.size:=(Array.getElem?_eq_some_iff.1 hr3).1
 have hb13:=hb12.trans (hb3.mono hsz2)
 have hsz3:=hb13.size
 clear hr2 hb2 hb3
 have HR3 : Hid (w3.heap[w1.heap.size]? = some (.cells (arr F) 241 (0,0))):=hr3
 clear hr3
 cases ok
 ·have HN : Hid (¬ Clk l):=fun h=>Bool.noConfusion (hok.2 h)
  clear hok hF hok2 hG
  go_wp2_with (first
   | (refine wpList_store_row rfl 241 _ _ rfl w3.heap.size (arr G) rfl rfl 241 (arr zF) (alloc_lit w3 (arr zF)) (by rw [arr_size];exact info61) (by rw [arr_size,arr_size]) (one_arr _) ?_))
  go_ret2
  exact ⟨.inl ⟨.inl HN.out,rfl⟩,below_setRow (hb13.alloc hsz3 _) hsz3 _⟩
 ·have HK : Hid (Clk l):=hok.1 rfl
  have HF : Hid (F = cN l):=hF rfl
  clear hok hF
  cases ok2
  ·have HN : Hid (¬ Clk m):=fun h=>Bool.noConfusion (hok2.2 h)
   clear hok2 hG
   go_wp2_with (first
    | (refine wpList_store_row rfl 241 _ _ rfl w3.heap.size (arr G) rfl rfl 241 (arr zF) (alloc_lit w3 (arr zF)) (by rw [arr_size];exact info61) (by rw [arr_size,arr_size]) (one_arr _) ?_))
   go_ret2
   exact ⟨.inl ⟨.inr HN.out,rfl⟩,below_setRow (hb13.alloc hsz3 _) hsz3 _⟩
  ·have HK2 : Hid (Clk m):=hok2.1 rfl
   have HG : Hid (G = cN m):=hG rfl
   clear hok2 hG
   obtain ⟨h40,h41,hb4⟩ : ((w3.alloc (.cells (arr zF) 241)).setRow w3.heap.size (arr G)).heap[w1.heap.size]? = some (.cells (arr F) 241 (0,0))/\((w3.alloc (.cells (arr zF) 241)).setRow w3.heap.size (arr G)).heap[w3.heap.size]? = some (.cells (arr G) 241 (0,0))/\Below w.heap.size w ((w3.alloc (.cells (arr zF) 241)).setRow w3.heap.size (arr G)) :=
    ⟨by rw [setRow_other _ _ _ _ (by omega),Below.heap_alloc _ _ _ hlt3];exact HR3.out,setRow_heap _ _ _ _ _ _ (alloc_lit w3 (arr zF)),below_setRow (hb13.alloc hsz3 _) hsz3 _⟩
   have H40 : Hid (((w3.alloc (.cells (arr zF) 241)).setRow w3.heap.size (arr G)).heap[w1.heap.size]? = some (.cells (arr F) 241 (0,0))):=h40
   have H41 : Hid (((w3.alloc (.cells (arr zF) 241)).setRow w3.heap.size (arr G)).heap[w3.heap.size]? = some (.cells (arr G) 241 (0,0))):=h41
   have HB4 : Hid (Below w.heap.size w ((w3.alloc (.cells (arr zF) 241)).setRow w3.heap.size (arr G))):=hb4
   clear h40 h41 hb4
   go_wp2_with (first
    | (refine wpList_store_row rfl 241 _ _ rfl w3.heap.size (arr G) rfl rfl 241 (arr zF) (alloc_lit w3 (arr zF)) (by rw [arr_size];exact info61) (by rw [arr_size,arr_size]) (one_arr _) ?_)
    | (refine wpList_load_row rfl 241 _ rfl w1.heap.size rfl 241 (arr F) (0,0) _ H40.out Tryz.underlying241 rfl (by rw [arr_size];exact info61) ?_)
    | (refine wpList_load_row rfl 241 _ rfl w3.heap.size rfl 241 (arr G) (0,0) _ H41.out Tryz.underlying241 rfl (by rw [arr_size];exact info61) ?_))
   obtain ⟨w4,hw4,hb4⟩ : ∃ w4,((w3.alloc (.cells (arr zF) 241)).setRow w3.heap.size (arr G)) = w4/\Below w.heap.size w w4:=⟨_,rfl,HB4.out⟩
   rw [zlit] at hw4
   rw [hw4]
   clear hw4 H40 H41 HB4
   have hsz4:=hb4.size
   refine (refboth_any F G w4).mono ?_
   rintro e w5 ⟨rfl,hb5⟩
   have hb05:=hb4.trans (hb5.mono hsz4)
   have hsz5:=hb05.size
   go_wp2_with fail
   refine (refEntries_any (bth F G 16) w5).mono ?_
   rintro e w6 ⟨v6,rfl,ho,hb6⟩
   have hb06:=hb05.trans (hb6.mono hsz5)
   have hj : entsTo (bth F G 16) 16 = jn [l,m]:=by rw [HF.out,HG.out];exact bth_cN ((clk_iff _).1 HK.out).2 ((clk_iff _).1 HK2.out).2
   rw [hj] at ho
   have ho2:=own_base (B:=w.heap.size) ho hsz5
   have hvl : ∃ a cap,v6 = .slice a (jn [l,m]).length cap:=by
    rcases ho.2 with ⟨h1,h2⟩ | ⟨g,cap,cur,h1,_⟩
    ·exact ⟨none,0,by rw [h1,h2]⟩
    ·exact ⟨_,_,h1⟩
   obtain ⟨a6,c6,rfl⟩:=hvl
   have HO : Hid (w6.ownsRow w.heap.size 183 2 (.slice a6 (jn [l,m]).length c6) (jn [l,m]).length (cellsE (jn [l,m]))):=ho2
   clear ho ho2 hj
   by_cases h8 : 8 < (jn [l,m]).length
   ·go_wp2
    go_ret2
    exact ⟨.inr (.inl ⟨HK.out,HK2.out,h8,rfl⟩),hb06⟩
   ·go_wp2
    go_ret2
    exact ⟨.inr (.inr ⟨HK.out,HK2.out,by omega,_,rfl,HO.out⟩),hb06⟩
end Go.Proofs.YtilkdeghknjjhaaGreatDoor
namespace Go.Proofs.YtilkdeghknjjhaaGreatDoor
open Go.RowKit Go.Sort M
theorem lo_be8 (c : Int) : loN c 8 = be8 c:=rfl
theorem lo_one (c : Int) (h0 : 0<=c) (h1 : c < 256) : loN c 1 = [c]:=by
 have : byteAt c 0 = c:=by show c / 2 ^ 0 % 256 = c;simp;omega
 show [byteAt c 0] = [c]
 rw [this]
set_option maxRecDepth 40000 in
theorem refEncode_no (v : Value) (l : List (Int × Int)) (w : World) (hrd : Rd w v l) (hk : ¬ Clk l) :
  Calls Tryz.prog 171 #[v] w fun e w'=>e = .returned (.tuple #[.string ByteArray.empty,.int .i64 1])/\Below w.heap.size w w':=by
 have HK : Hid (¬ Clk l):=hk
 clear hk
 go_enter Tryz.func171,Tryz.ntmps171
 go_wp2_with fail
 refine (refClock_any v l _ hrd).mono ?_
 rintro e w1 ⟨ok,F,rfl,hok,hF,hb⟩
 have hsz:=hb.size
 obtain rfl : ok = false:=by cases ok;rfl;exact absurd (hok.1 rfl) HK.out
 clear hok hF
 go_wp2_with (first
  | (refine wpList_store_row rfl 241 _ _ rfl w1.heap.size (arr F) rfl rfl 241 (arr zF) (alloc_lit w1 (arr zF)) (by rw [arr_size];exact info61) (by rw [arr_size,arr_size]) (one_arr _) ?_))
 go_ret2
 exact ⟨rfl,below_setRow (hb.alloc hsz _) hsz _⟩
set_option maxRecDepth 40000 in
theorem refEncode_yes (v : Value) (l : List (Int × Int)) (w : World) (hrd : Rd w v l) (hk : Clk l) :
  Calls Tryz.prog 171 #[v] w fun e w'=>e = .returned (.tuple #[.string (strOfNums (encL l)),.int .i64 0])/\Below w.heap.size w w':=by
 have HK : Hid (Clk l):=hk
 have hl8 : l.length<=8:=hk.1
 clear hk
 go_enter Tryz.func171,Tryz.ntmps171
 go_wp2_with fail
 refine (refClock_any v l _ hrd).mono ?_
 rintro e w1 ⟨ok,F,rfl,hok,hF,hb⟩
 have hsz:=hb.size
 obtain rfl : ok = true:=hok.2 HK.out
 clear hok hF
 obtain ⟨a,cap,rfl⟩:=hrd.shape
 go_wp2_with (first
  | (refine wpList_store_row rfl 241 _ _ rfl w1.heap.size (arr F) rfl rfl 241 (arr zF) (alloc_lit w1 (arr zF)) (by rw [arr_size];exact info61) (by rw [arr_size,arr_size]) (one_arr _) ?_))
 obtain ⟨w2,hw2,hb2⟩ : ∃ w2,((w1.alloc (.cells (arr zF) 241)).setRow w1.heap.size (arr F)) = w2/\Below w.heap.size w w2:=⟨_,rfl,below_setRow (hb.alloc hsz _) hsz _⟩
 rw [zlit] at hw2
 rw [hw2]
 clear hw2 hb hsz
 have hsz2:=hb2.size
 refine (refbytes_any (l.length : Int) 1 w2 (by omega) (by omega) (by decide)).mono ?_
 rintro e w3 ⟨rfl,hb3⟩
 rw [lo_one _ (by omega) (by omega)]
 have hb03:=hb2.trans (hb3.mono hsz2)
 clear hb2 hb3 hsz2
 have hsz3:=hb03.size
 have hrd3:=hrd.below hb03
 clear hrd
 obtain ⟨a',cap',hv,hlc,hc,hA⟩:=hrd3
 simp only [Value.slice.injEq,true_and] at hv
 obtain ⟨rfl,rfl⟩:=hv
 clear hlc hc
 go_wp2_with fail
 go_loopw [6,7] (fun s i wr=>∃ (k : Nat) (t : ByteArray),k<=l.length/\i = .int .i64 k/\s = .string t/\Hid (t = strOfNums (encTo l k))/\Below w3.heap.size w3 wr)
  (fun _ i _=>l.length - (intOf i).toNat)
 case atStart=>exact ⟨0,_,Nat.zero_le _,rfl,rfl,rfl,Below.refl _ _⟩
 case round =>
  obtain ⟨k,t,hkl,rfl,rfl,ht,hb⟩:=hrel
  have hszr:=hb.size
  by_cases hlt : k < l.length
  ·obtain ⟨b,off,rfl,hr⟩:=hA (by omega)
   have c1 : wr.cell? ⟨b,off + k * 2,none⟩ = some (.int .i64 (ent l k).1):=cell_later hb (hr k hlt).1
   have c2 : wr.cell? ⟨b,off + k * 2 + 1,none⟩ = some (.int .i64 (ent l k).2):=cell_later hb (hr k hlt).2
   have hd:=(HK.out.2 k hlt).1
   have k1:=cell_regrown c1
   have k2:=cell_regrown c2
   have cA : ∀ d os,Calls Tryz.prog 214 #[.int .i64 (ent l k).1,.int .i64 1] (grow (redrawn wr d) os) fun e w''=>e = .returned (.string (strOfNums (loN (ent l k).1 1)))/\∃ p : Regrown,w'' = grow (redrawn wr p.d) p.os :=
    fun d os=>Calls.regrown_of (refbytes_any (ent l k).1 1 _ hd.1 (by have:=hd.2.1;omega) (by decide))
   have cB : ∀ d os,Calls Tryz.prog 214 #[.int .i64 (ent l k).2,.int .i64 8] (grow (redrawn wr d) os) fun e w''=>e = .returned (.string (strOfNums (loN (ent l k).2 8)))/\∃ p : Regrown,w'' = grow (redrawn wr p.d) p.os :=
    fun d os=>Calls.regrown_of (refbytes_any (ent l k).2 8 _ (by have:=hd.2.2.1;omega) hd.2.2.2 (by decide))
   rw [lo_one _ hd.1 (by have:=hd.2.1;omega)] at cA
   rw [lo_be8] at cB
   have ts : t.size<=100:=by rw [ht.out,strOfNums_size,encTo_len];omega
   obtain ⟨sa,hsa,ha2⟩ : ∃ s,strOfNums [(ent l k).1] = s/\s.size<=1:=⟨_,rfl,by rw [strOfNums_size];simp⟩
   obtain ⟨sb,hsb,hb2⟩ : ∃ s,strOfNums (be8 (ent l k).2) = s/\s.size<=8:=⟨_,rfl,by rw [strOfNums_size,be8_len];omega⟩
   rw [hsa] at cA
   rw [hsb] at cB
   have HS : Hid (t ++ sa ++ sb = strOfNums (encTo l (k + 1))):=by
    show _ = _
    rw [ht.out,<- hsa,<- hsb,str_app,str_app,List.append_assoc];rfl
   obtain ⟨n1,hn1⟩ : ∃ x,(ent l k).1 = x:=⟨_,rfl⟩
   obtain ⟨n2,hn2⟩ : ∃ x,(ent l k).2 = x:=⟨_,rfl⟩
   rw [hn1] at k1 cA
   rw [hn2] at k2 cB
   have kl : (k : Int) < (l.length : Int):=by omega
   have z1 : ¬ 9223372036854775807 < t.size + sa.size:=by omega
   have z2 : ¬ 9223372036854775807 < t.size + sa.size + sb.size:=by omega
   have HA : Hid (∀ d os,Calls Tryz.prog 214 #[.int .i64 n1,.int .i64 1] (grow (redrawn wr d) os) fun e w''=>e = .returned (.string sa)/\∃ p : Regrown,w'' = grow (redrawn wr p.d) p.os):=cA
   have HB : Hid (∀ d os,Calls Tryz.prog 214 #[.int .i64 n2,.int .i64 8] (grow (redrawn wr d) os) fun e w''=>e = .returned (.string sb)/\∃ p : Regrown,w'' = grow (redrawn wr p.d) p.os):=cB
   clear hA hr c1 c2 hd hsa hsb hn1 hn2 cA cB
   go_wp2_with fail
   refine wp_region_quiet_below (by kernel_rfl) (by kernel_rfl) ?_
   repeat (quiet_step (first | (go_at_call_of 214 (Value.int IntKind.i64 n1);exact HA.out _ _) | (go_at_call_of 214 (Value.int IntKind.i64 n2);exact HB.out _ _)))
   refine wpQuiet_nil ?_
   intro _ hw'
   obtain ⟨⟨dq,osq⟩,hw''⟩:=hw'
   subst hw''
   go_wp2
   go_roundw
   case rel=>exact ⟨k + 1,_,by omega,by go_num,rfl,HS,hb.trans ((below_regrown wr dq osq).mono hszr)⟩
   case measure=>simp [intOf];omega
  ·have hkk : k = l.length:=by omega
   subst hkk
   clear hA
   go_wp2
   go_ret2
   exact ⟨by rw [ht.out];rfl,hb03.trans (hb.mono hsz3)⟩
end Go.Proofs.YtilkdeghknjjhaaGreatDoor
