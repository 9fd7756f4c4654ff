/- The contracts of the document's Join, Covers, Encode. -/
import Derived.Test.YtilkdeghknjjhaaGreatDoorPart12
import Derived.Test.YtilkdeghknjjhaaGreatDoorPart11
import Derived.Test.YtilkdeghknjjhaaGreatDoorPart10
import Derived.WalkKit
import Derived.WalkSpells
import Derived.WalkLawsBesides
import Derived.Deep.QuietTactic
import Derived.BigQuiet
namespace Go.Proofs.YtilkdeghknjjhaaGreatDoor
open Go.RowKit M
set_option linter.unusedVariables false

theorem alloc_lit (w : World) (A : Array Value) : (w.alloc (.cells A 241)).heap[w.heap.size]? = some (.cells A 241 (0, 0)) := heap_alloc_new w _

set_option maxRecDepth 20000 in
set_option maxHeartbeats 800000 in
theorem refCovers_any (v : Value) (l : List (Int × Int)) (n c : Int) (w : World) (hrd : Rd w v l) :
    Calls Tryz.prog 218 #[v, .int .i64 n, .int .i64 c] w fun e w' => ∃ r, e = .returned (.bool r) ∧ (r = true ↔ Clk l ∧ Dot n c ∧ c ≤ cS l n) ∧ Below w.heap.size w w' := by
  go_enter Tryz.func218, Tryz.ntmps218
  go_wp2_with fail
  refine (refClock_any v l _ hrd).mono ?_
  rintro e w1 ⟨ok, F, rfl, hok, hF, hb⟩
  have hsz := hb.size
  go_wp2_with (first
    | (refine wpList_store_row rfl 241 _ _ rfl w1.heap.size (arr F) rfl rfl 241 (arr zF) (alloc_lit w1 (arr zF)) (by rw [arr_size]; exact info61) (by rw [arr_size, arr_size]) (one_arr _) ?_))
  obtain ⟨w2, hw2, hr2, hb2⟩ : ∃ w2, ((w1.alloc (.cells (arr zF) 241)).setRow w1.heap.size (arr F)) = w2 ∧ w2.heap[w1.heap.size]? = some (.cells (arr F) 241 (0, 0)) ∧ Below w1.heap.size w1 w2 :=
    ⟨_, rfl, setRow_heap _ _ _ _ _ _ (alloc_lit w1 (arr zF)), below_setRow ((Below.refl _ _).alloc (Nat.le_refl _) _) (Nat.le_refl _) _⟩
  rw [zlit] at hw2
  rw [hw2]
  clear hw2
  have HR2 : Hid (w2.heap[w1.heap.size]? = some (.cells (arr F) 241 (0, 0))) := hr2
  have hb12 := hb.trans (hb2.mono hsz)
  have hsz2 := hb12.size
  clear hr2
  refine (refdot_any n c _).mono ?_
  rintro e w3 ⟨rfl, rfl⟩
  cases ok
  · have HN : Hid (¬ Clk l) := fun h => Bool.noConfusion (hok.2 h)
    clear hok hF
    go_wp2
    go_ret
    exact ⟨false, rfl, by simp; intro h; exact absurd h HN.out, hb12⟩
  · have HK : Hid (Clk l) := hok.1 rfl
    have HF : Hid (F = cN l) := hF rfl
    clear hok hF
    by_cases hd : dotB n c = true
    · have hdd := (dotB_iff _ _).1 hd
      obtain ⟨m, rfl⟩ : ∃ m : Nat, n = m := ⟨n.toNat, by have := hdd.1; omega⟩
      have hm : m < 16 := by have := hdd.2.1; omega
      have HD : Hid (Dot (m : Int) c) := hdd
      rw [hd]
      clear hd hdd
      have c0 : w3.cell? ⟨w1.heap.size, m, none⟩ = some (.int .i64 (F m)) := by rw [cell_of_row _ _ _ _ _ _ HR2.out]; exact arr_at _ _ hm
      go_wp2
      go_ret
      have h1 : F m = cS l (m : Int) := by rw [HF.out]; rfl
      exact ⟨_, rfl, by simp [HK.out, HD.out, h1], hb12⟩
    · have hd' : dotB n c = false := by simpa using hd
      have HD : Hid (¬ Dot n c) := fun h => hd ((dotB_iff _ _).2 h)
      rw [hd']
      clear hd hd'
      go_wp2
      go_ret
      exact ⟨false, rfl, by simp; intro _ h; exact absurd h HD.out, hb12⟩

theorem bth_cN {l m : List (Int × Int)} (hl : US l) (hm : US m) : entsTo (bth (cN l) (cN m) 16) 16 = jn [l, m] := by
  have e : ∀ n, n < 16 → bth (cN l) (cN m) 16 n = apAll [l, m] [l, m].length n := by
    intro n hn
    rw [apAll_eq]
    unfold bth cN
    rw [if_pos hn]
    have := cS_nonneg l n
    simp only [List.length_cons, List.length_nil, mxS, List.getD_cons_succ, List.getD_cons_zero]
    omega
  have key : ∀ (F G : Nat → Int) k, (∀ n, n < k → F n = G n) → entsTo F k = entsTo G k := by
    intro F G k
    induction k with
    | zero => intro _; rfl
    | succ k ih =>
      intro h
      unfold entsTo
      rw [ih (fun n hn => h n (by omega)), h k (by omega)]
  exact key _ _ 16 e

set_option maxRecDepth 20000 in
set_option maxHeartbeats 800000 in
theorem refJoin_any (v u : Value) (l m : List (Int × Int)) (w : World) (hv : Rd w v l) (hu : Rd w u m) :
    Calls Tryz.prog 221 #[v, u] w fun e w' => JoinEnd w l m e w' ∧ Below w.heap.size w w' := by
  go_enter Tryz.func221, Tryz.ntmps221
  go_wp2_with fail
  refine (refClock_any v l _ hv).mono ?_
  rintro e w1 ⟨ok, F, rfl, hok, hF, hb⟩
  have hsz := hb.size
  go_wp2_with (first
    | (refine wpList_store_row rfl 241 _ _ rfl w1.heap.size (arr F) rfl rfl 241 (arr zF) (alloc_lit w1 (arr zF)) (by rw [arr_size]; exact info61) (by rw [arr_size, arr_size]) (one_arr _) ?_))
  obtain ⟨w2, hw2, hr2, hb2⟩ : ∃ w2, ((w1.alloc (.cells (arr zF) 241)).setRow w1.heap.size (arr F)) = w2 ∧ w2.heap[w1.heap.size]? = some (.cells (arr F) 241 (0, 0)) ∧ Below w1.heap.size w1 w2 :=
    ⟨_, rfl, setRow_heap _ _ _ _ _ _ (alloc_lit w1 (arr zF)), below_setRow ((Below.refl _ _).alloc (Nat.le_refl _) _) (Nat.le_refl _) _⟩
  rw [zlit] at hw2
  rw [hw2]
  clear hw2
  have hb12 := hb.trans (hb2.mono hsz)
  have hsz2 := hb12.size
  refine (refClock_any u m _ (hu.below hb12)).mono ?_
  rintro e w3 ⟨ok2, G, rfl, hok2, hG, hb3⟩
  have hr3 := (hb3.block _ (Array.getElem?_eq_some_iff.1 hr2).1).trans hr2
  have hlt3 : w1.heap.size < w3.heap.size := (Array.getElem?_eq_some_iff.1 hr3).1
  have hb13 := hb12.trans (hb3.mono hsz2)
  have hsz3 := hb13.size
  clear hr2 hb2 hb3
  have HR3 : Hid (w3.heap[w1.heap.size]? = some (.cells (arr F) 241 (0, 0))) := hr3
  clear hr3
  cases ok
  · have HN : Hid (¬ Clk l) := fun h => Bool.noConfusion (hok.2 h)
    clear hok hF hok2 hG
    go_wp2_with (first
      | (refine wpList_store_row rfl 241 _ _ rfl w3.heap.size (arr G) rfl rfl 241 (arr zF) (alloc_lit w3 (arr zF)) (by rw [arr_size]; exact info61) (by rw [arr_size, arr_size]) (one_arr _) ?_))
    go_ret2
    exact ⟨.inl ⟨.inl HN.out, rfl⟩, below_setRow (hb13.alloc hsz3 _) hsz3 _⟩
  · have HK : Hid (Clk l) := hok.1 rfl
    have HF : Hid (F = cN l) := hF rfl
    clear hok hF
    cases ok2
    · have HN : Hid (¬ Clk m) := fun h => Bool.noConfusion (hok2.2 h)
      clear hok2 hG
      go_wp2_with (first
        | (refine wpList_store_row rfl 241 _ _ rfl w3.heap.size (arr G) rfl rfl 241 (arr zF) (alloc_lit w3 (arr zF)) (by rw [arr_size]; exact info61) (by rw [arr_size, arr_size]) (one_arr _) ?_))
      go_ret2
      exact ⟨.inl ⟨.inr HN.out, rfl⟩, below_setRow (hb13.alloc hsz3 _) hsz3 _⟩
    · have HK2 : Hid (Clk m) := hok2.1 rfl
      have HG : Hid (G = cN m) := hG rfl
      clear hok2 hG
      obtain ⟨h40, h41, hb4⟩ : ((w3.alloc (.cells (arr zF) 241)).setRow w3.heap.size (arr G)).heap[w1.heap.size]? = some (.cells (arr F) 241 (0, 0)) ∧ ((w3.alloc (.cells (arr zF) 241)).setRow w3.heap.size (arr G)).heap[w3.heap.size]? = some (.cells (arr G) 241 (0, 0)) ∧ Below w.heap.size w ((w3.alloc (.cells (arr zF) 241)).setRow w3.heap.size (arr G)) :=
        ⟨by rw [setRow_other _ _ _ _ (by omega), Below.heap_alloc _ _ _ hlt3]; exact HR3.out, setRow_heap _ _ _ _ _ _ (alloc_lit w3 (arr zF)), below_setRow (hb13.alloc hsz3 _) hsz3 _⟩
      have H40 : Hid (((w3.alloc (.cells (arr zF) 241)).setRow w3.heap.size (arr G)).heap[w1.heap.size]? = some (.cells (arr F) 241 (0, 0))) := h40
      have H41 : Hid (((w3.alloc (.cells (arr zF) 241)).setRow w3.heap.size (arr G)).heap[w3.heap.size]? = some (.cells (arr G) 241 (0, 0))) := h41
      have HB4 : Hid (Below w.heap.size w ((w3.alloc (.cells (arr zF) 241)).setRow w3.heap.size (arr G))) := hb4
      clear h40 h41 hb4
      go_wp2_with (first
        | (refine wpList_store_row rfl 241 _ _ rfl w3.heap.size (arr G) rfl rfl 241 (arr zF) (alloc_lit w3 (arr zF)) (by rw [arr_size]; exact info61) (by rw [arr_size, arr_size]) (one_arr _) ?_)
        | (refine wpList_load_row rfl 241 _ rfl w1.heap.size rfl 241 (arr F) (0, 0) _ H40.out Tryz.underlying241 rfl (by rw [arr_size]; exact info61) ?_)
        | (refine wpList_load_row rfl 241 _ rfl w3.heap.size rfl 241 (arr G) (0, 0) _ H41.out Tryz.underlying241 rfl (by rw [arr_size]; exact info61) ?_))
      obtain ⟨w4, hw4, hb4⟩ : ∃ w4, ((w3.alloc (.cells (arr zF) 241)).setRow w3.heap.size (arr G)) = w4 ∧ Below w.heap.size w w4 := ⟨_, rfl, HB4.out⟩
      rw [zlit] at hw4
      rw [hw4]
      clear hw4 H40 H41 HB4
      have hsz4 := hb4.size
      refine (refboth_any F G w4).mono ?_
      rintro e w5 ⟨rfl, hb5⟩
      have hb05 := hb4.trans (hb5.mono hsz4)
      have hsz5 := hb05.size
      go_wp2_with fail
      refine (refEntries_any (bth F G 16) w5).mono ?_
      rintro e w6 ⟨v6, rfl, ho, hb6⟩
      have hb06 := hb05.trans (hb6.mono hsz5)
      have hj : entsTo (bth F G 16) 16 = jn [l, m] := by rw [HF.out, HG.out]; exact bth_cN ((clk_iff _).1 HK.out).2 ((clk_iff _).1 HK2.out).2
      rw [hj] at ho
      have ho2 := own_base (B := w.heap.size) ho hsz5
      have hvl : ∃ a cap, v6 = .slice a (jn [l, m]).length cap := by
        rcases ho.2 with ⟨h1, h2⟩ | ⟨g, cap, cur, h1, _⟩
        · exact ⟨none, 0, by rw [h1, h2]⟩
        · exact ⟨_, _, h1⟩
      obtain ⟨a6, c6, rfl⟩ := hvl
      have HO : Hid (w6.ownsRow w.heap.size 183 2 (.slice a6 (jn [l, m]).length c6) (jn [l, m]).length (cellsE (jn [l, m]))) := ho2
      clear ho ho2 hj
      by_cases h8 : 8 < (jn [l, m]).length
      · go_wp2
        go_ret2
        exact ⟨.inr (.inl ⟨HK.out, HK2.out, h8, rfl⟩), hb06⟩
      · go_wp2
        go_ret2
        exact ⟨.inr (.inr ⟨HK.out, HK2.out, by omega, _, rfl, HO.out⟩), hb06⟩
end Go.Proofs.YtilkdeghknjjhaaGreatDoor
