/- The contracts of the document's own answer on clocks: dot, Clock, both, Entries, Join, Covers. -/
import Derived.Test.YtilkdeghknjjhaaGreatDoorPart09
import Derived.WalkKit
import Derived.WalkSpells
import Derived.WalkLawsBesides
import Derived.Deep.QuietTactic
import Derived.BigQuiet
namespace Go.Proofs.YtilkdeghknjjhaaGreatDoor
open Go.RowKit M
set_option linter.unusedVariables false

set_option maxHeartbeats 400000 in
theorem refdot_any (n c : Int) (w : World) :
    Calls Tryz.prog 217 #[.int .i64 n, .int .i64 c] w fun e w' => e = .returned (.bool (dotB n c)) ∧ w' = w := by
  by_cases h1 : 0 ≤ n
  · by_cases h2 : n ≤ 15
    · by_cases h3 : 1 ≤ c
      · by_cases h4 : c ≤ 4611686018427387904
        · have e : dotB n c = true := by simp [dotB, h1, h2, h3, h4]
          rw [e]; clear e
          go_enter Tryz.func217, Tryz.ntmps217
          go_wp2
          go_ret
          exact ⟨rfl, rfl⟩
        · have e : dotB n c = false := by simp [dotB, h4]
          rw [e]; clear e
          go_enter Tryz.func217, Tryz.ntmps217
          go_wp2
          go_ret
          exact ⟨rfl, rfl⟩
      · have e : dotB n c = false := by simp [dotB, h3]
        rw [e]; clear e
        go_enter Tryz.func217, Tryz.ntmps217
        go_wp2
        go_ret
        exact ⟨rfl, rfl⟩
    · have e : dotB n c = false := by simp [dotB, h2]
      rw [e]; clear e
      go_enter Tryz.func217, Tryz.ntmps217
      go_wp2
      go_ret
      exact ⟨rfl, rfl⟩
  · have e : dotB n c = false := by simp [dotB, h1]
    rw [e]; clear e
    go_enter Tryz.func217, Tryz.ntmps217
    go_wp2
    go_ret
    exact ⟨rfl, rfl⟩


theorem one_arr (F : Nat → Int) : (arr F).all (·.oneCell') = true := by
  rw [Array.all_eq_true_iff_forall_mem]
  intro x hx
  simp [arr] at hx
  obtain ⟨n, _, rfl⟩ := hx
  rfl
/-- The counts of a list, as a function of the node. -/
def cN (l : List (Int × Int)) : Nat → Int := fun n => cS l (n : Int)
theorem results37 (tmps : Array Value) (w : World) (g : Nat) (F : Nat → Int) (b : Bool) (h2 : tmps.getD 2 undef = .pointer (some ⟨g, 0, none⟩)) (h3 : tmps.getD 3 undef = .bool b) (hg : w.heap[g]? = some (.cells (arr F) 241 (0, 0))) :
    (results Tryz.f174 tmps).run Tryz.prog w = .ok (.tuple #[.agg (arr F), .bool b]) w := by
  have hl := run_loadVar_row (P := Tryz.prog) w g 241 241 (arr F) (0, 0) _ hg Tryz.underlying241 rfl (by rw [arr_size]; exact info61)
  have h2' : tmps[2]?.getD undef = .pointer (some ⟨g, 0, none⟩) := by simpa using h2
  have h3' : tmps[3]?.getD undef = .bool b := by simpa using h3
  simp [results, Tryz.results174, h2', h3', asAddr, hl]

def zF : Nat → Int := fun _ => 0
theorem zF_eq : zF = cN [] := rfl
theorem zlit : (arr zF) = #[.int .i64 0, .int .i64 0, .int .i64 0, .int .i64 0, .int .i64 0, .int .i64 0, .int .i64 0, .int .i64 0, .int .i64 0, .int .i64 0, .int .i64 0, .int .i64 0, .int .i64 0, .int .i64 0, .int .i64 0, .int .i64 0] := rfl
theorem two_new (w : World) (A B : Array Value) : ((w.alloc (.cells A 241)).alloc (.cells B 241)).heap[w.heap.size]? = some (.cells A 241 (0, 0)) ∧ ((w.alloc (.cells A 241)).alloc (.cells B 241)).heap[w.heap.size + 1]? = some (.cells B 241 (0, 0)) :=
  ⟨heap_alloc2_old w _ _, heap_alloc2_new w _ _⟩

/-- What the document's Clock answers. -/
def RC (w : World) (l : List (Int × Int)) (e : Ending) (w' : World) : Prop :=
  ∃ ok F, e = .returned (.tuple #[.agg (arr F), .bool ok]) ∧ (ok = true ↔ Clk l) ∧ (ok = true → F = cN l) ∧ Below w.heap.size w w'
theorem RC.no {w w' : World} {l : List (Int × Int)} {e : Ending} (he : e = .returned (.tuple #[.agg (arr zF), .bool false])) (hn : ¬ Clk l) (hb : Below w.heap.size w w') : RC w l e w' :=
  ⟨false, zF, he, ⟨fun h => Bool.noConfusion h, fun h => absurd h hn⟩, fun h => Bool.noConfusion h, hb⟩
theorem RC.yes {w w' : World} {l : List (Int × Int)} {e : Ending} (he : e = .returned (.tuple #[.agg (arr (cN l)), .bool true])) (hn : Clk l) (hb : Below w.heap.size w w') : RC w l e w' :=
  ⟨true, cN l, he, ⟨fun _ => hn, fun _ => rfl⟩, fun _ => rfl, hb⟩

set_option maxRecDepth 20000 in
set_option maxHeartbeats 800000 in
theorem refClock_any (v : Value) (l : List (Int × Int)) (w : World) (hrd : Rd w v l) :
    Calls Tryz.prog 174 #[v] w fun e w' => RC w l e w' := by
  obtain ⟨a, cap, rfl, hlc, hc, hA⟩ := hrd
  have hl1 : (l.length : Int) ≤ 9223372036854775807 := by omega
  clear hlc hc
  have hb2 : ∀ A B : Array Value, Below w.heap.size w ((w.alloc (.cells A 241)).alloc (.cells B 241)) := fun A B => ((Below.refl _ _).alloc (Nat.le_refl _) _).alloc (by simp) _
  by_cases h8 : 8 < l.length
  · have HN : Hid (¬ Clk l) := fun h => by have := h.1; omega
    have HT : Hid (∀ A B : Array Value, _) := two_new w
    have HB : Hid (∀ A B : Array Value, Below w.heap.size w ((w.alloc (.cells A 241)).alloc (.cells B 241))) := hb2
    clear hb2
    go_enter Tryz.func174, Tryz.ntmps174
    go_wp2_with (first
      | (refine wpList_load_row rfl 241 _ rfl (w.heap.size + 1) rfl 241 (arr zF) (0, 0) _ (HT.out _ (arr zF)).2 Tryz.underlying241 rfl (by rw [arr_size]; exact info61) ?_)
      | (refine wpList_store_row rfl 241 _ _ rfl w.heap.size (arr zF) rfl rfl 241 (arr zF) (HT.out (arr zF) (arr zF)).1 (by rw [arr_size]; exact info61) rfl (one_arr _) ?_))
    refine bodyPost_ret (results37 _ _ w.heap.size zF false rfl rfl (setRow_heap _ _ _ _ _ _ (HT.out (arr zF) (arr zF)).1)) rfl (RC.no rfl HN.out (below_setRow (HB.out _ _) (Nat.le_refl _) _))
  · have HT : Hid (∀ A B : Array Value, _) := two_new w
    have HB : Hid (∀ A B : Array Value, Below w.heap.size w ((w.alloc (.cells A 241)).alloc (.cells B 241))) := hb2
    clear hb2
    go_enter Tryz.func174, Tryz.ntmps174
    go_wp2_with fail
    go_loopw [5, 6] (fun q i wr => ∃ (k : Nat) (z : Int), k ≤ l.length ∧ i = .int .i64 k ∧ q = .int .i64 z ∧ Hid ((k = 0 → z = -1) ∧ (0 < k → z = (ent l (k - 1)).1)) ∧ Hid (Up l k) ∧ -1 ≤ z ∧
        wr.heap[w.heap.size]? = some (.cells (arr zF) 241 (0, 0)) ∧ wr.heap[w.heap.size + 1]? = some (.cells (arr (cN (l.take k))) 241 (0, 0)) ∧ Below w.heap.size w wr)
      (fun _ i _ => l.length - (intOf i).toNat)
    case atStart => exact ⟨0, -1, Nat.zero_le _, rfl, rfl, ⟨fun _ => rfl, fun h => by omega⟩, Up.zero l, by omega, (HT.out (arr zF) (arr zF)).1, (HT.out (arr zF) (arr zF)).2, HB.out _ _⟩
    case round =>
      obtain ⟨k, z, hk, rfl, rfl, hz, hu, hz1, hw0, hw1, hb⟩ := hrel
      clear HT HB
      have hsz := hb.size
      by_cases hlt : k < l.length
      · obtain ⟨b, off, rfl, hr⟩ := hA (by omega)
        have c1 : wr.cell? ⟨b, off + k * 2, none⟩ = some (.int .i64 (ent l k).1) := cell_later hb (hr k hlt).1
        have c2 : wr.cell? ⟨b, off + k * 2 + 1, none⟩ = some (.int .i64 (ent l k).2) := cell_later hb (hr k hlt).2
        clear hA hr
        have HW0 : Hid (wr.heap[w.heap.size]? = some (.cells (arr zF) 241 (0, 0))) := hw0
        have HW1 : Hid (wr.heap[w.heap.size + 1]? = some (.cells (arr (cN (l.take k))) 241 (0, 0))) := hw1
        by_cases hgood : z < (ent l k).1 ∧ (ent l k).1 < 16 ∧ 1 ≤ (ent l k).2 ∧ (ent l k).2 ≤ 4611686018427387904
        · obtain ⟨g1, g2, g3, g4⟩ := hgood
          obtain ⟨nd, hnd⟩ : ∃ nd : Nat, (ent l k).1 = nd := ⟨(ent l k).1.toNat, by omega⟩
          have hnd16 : nd < 16 := by omega
          have hUp : Hid (Up l (k + 1)) := Up.succ hu.out ⟨by omega, by omega, g3, g4⟩ (fun h => by have := hz.out.2 h; omega)
          have HN : Hid ((ent l k).1 = nd) := hnd
          rw [hnd] at c1 g1 g2
          obtain ⟨q, hq⟩ : ∃ q, (ent l k).2 = q := ⟨_, rfl⟩
          rw [hq] at c2 g3 g4
          have HQ : Hid ((ent l k).2 = q) := hq
          have ca : wr.cell? ⟨w.heap.size + 1, nd, none⟩ = some (.int .i64 (cN (l.take k) nd)) := by
            rw [cell_of_row _ _ _ _ _ _ hw1]; exact arr_at _ _ hnd16
          have cf : wr.frozen? ⟨w.heap.size + 1, nd, none⟩ = false := frozen_of_row _ _ _ _ _ hw1
          clear hw0 hw1 hnd hq
          go_wp2
          go_roundw
          case rel =>
            refine ⟨k + 1, nd, by omega, by go_num, rfl, ⟨fun h => by omega, fun _ => HN.out.symm⟩, hUp, by omega, ?_, ?_, hb.setCell (by simp) _⟩
            · rw [heap_setCell_other _ _ _ _ (by simp)]; exact HW0.out
            · rw [heap_setCell_same _ _ _ _ _ _ HW1.out]
              congr 2
              refine arr_set _ _ _ _ (fun n => ?_)
              unfold cN
              rw [take_snoc' l k hlt, cS_append, HN.out, HQ.out]
              by_cases e : n = nd
              · subst e
                rw [if_pos rfl, if_pos rfl]
                have h0 : cS (l.take k) (n : Int) = 0 := cS_none (fun x hx => by
                  obtain ⟨i, hi, rfl⟩ := List.getElem_of_mem hx
                  have hi2 : i < k := by rw [List.length_take] at hi; omega
                  have hu2 := (US.of_up (l := l.take (k + 1)) (by
                    rw [List.length_take, Nat.min_eq_left (by omega)]
                    intro j hj
                    have h1 := hUp.out j hj
                    have e1 : ∀ t, t < k + 1 → ent (l.take (k + 1)) t = ent l t := fun t ht => by simp [ent, List.getD, ht]
                    rw [e1 j hj]
                    exact ⟨h1.1, fun h => by rw [e1 (j - 1) (by omega)]; exact h1.2 h⟩)).1
                  have h3 := List.pairwise_iff_getElem.1 hu2 i k (by simp; omega) (by simp; omega) hi2
                  have h4 := HN.out
                  rw [ent_get l k hlt] at h4
                  simp only [List.getElem_take] at h3 ⊢
                  omega)
                rw [h0]; omega
              · rw [if_neg (by omega), if_neg e]
                have := cS_nonneg (l.take k) n
                omega
          case measure => simp [intOf]; omega
        · have HNC : Hid (¬ Clk l) := fun h => hgood (by
            have h1 := (h.2 k hlt)
            refine ⟨?_, by have := h1.1.2.1; omega, h1.1.2.2.1, h1.1.2.2.2⟩
            by_cases h0 : 0 < k
            · have := hz.out.2 h0; have := h1.2 h0; omega
            · have := hz.out.1 (by omega); have := h1.1.1; omega)
          clear hw0 hw1
          go_wp2_with (first
            | (refine wpList_store_row rfl 241 _ _ rfl w.heap.size (arr zF) rfl rfl 241 (arr zF) HW0.out (by rw [arr_size]; exact info61) rfl (one_arr _) ?_))
          all_goals
            (refine bodyPost_ret (results37 _ _ w.heap.size zF false rfl rfl (setRow_heap _ _ _ _ _ _ HW0.out)) rfl (RC.no rfl HNC.out (below_setRow hb (Nat.le_refl _) _)))
      · have hkk : k = l.length := by omega
        have HC : Hid (Clk l) := ⟨by omega, hkk ▸ hu.out⟩
        rw [hkk, List.take_length] at hw1
        clear hA
        subst hkk
        go_wp2_with (first
          | (refine wpList_load_row rfl 241 _ rfl (w.heap.size + 1) rfl 241 (arr (cN l)) (0, 0) _ hw1 Tryz.underlying241 rfl (by rw [arr_size]; exact info61) ?_)
          | (refine wpList_store_row rfl 241 _ _ rfl w.heap.size (arr (cN l)) rfl rfl 241 (arr zF) hw0 (by rw [arr_size]; exact info61) (by rw [arr_size, arr_size]) (one_arr _) ?_))
        refine bodyPost_ret (results37 _ _ w.heap.size (cN l) true rfl rfl (setRow_heap _ _ _ _ _ _ hw0)) rfl (RC.yes rfl HC.out (below_setRow hb (Nat.le_refl _) _))
end Go.Proofs.YtilkdeghknjjhaaGreatDoor
