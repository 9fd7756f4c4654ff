/- The contracts of Entries and both. -/
import Derived.Test.YtilkdeghknjjhaaGreatDoorPart09
import Derived.WalkKit
import Derived.WalkSpells
import Derived.WalkLawsBesides
import Derived.Deep.QuietTactic
import Derived.BigQuiet
namespace Go.Proofs.YtilkdeghknjjhaaGreatDoor
open Go.RowKit M
set_option linter.unusedVariables false

theorem alloc_last (w : World) (o : Obj) : (w.alloc o).heap[w.heap.size]? = some o := heap_alloc_new w o
set_option maxRecDepth 20000 in
set_option maxHeartbeats 400000 in
theorem refEntries_any (F : Nat → Int) (w : World) :
    Calls Tryz.prog 220 #[.agg (arr F)] w fun e w' => ∃ v, e = .returned v ∧ w'.ownsRow w.heap.size 183 2 v (entsTo F 16).length (cellsE (entsTo F 16)) ∧ Below w.heap.size w w' := by
  obtain ⟨i0, hi, hz0, hz1, hz2⟩ := info_parts Tryz.info183
  go_enter Tryz.func220, Tryz.ntmps220
  go_wp2_with fail
  have HR : Hid ((w.alloc (.cells (arr F) 241)).heap[w.heap.size]? = some (.cells (arr F) 241 (0, 0))) := by show _ = _; exact alloc_last w _
  go_loopw [3, 4] (fun v i wr => ∃ k : Nat, k ≤ 16 ∧ i = .int .i64 k ∧ wr.heap[w.heap.size]? = some (.cells (arr F) 241 (0, 0)) ∧ wr.ownsRow (w.heap.size + 1) 183 2 v (entsTo F k).length (cellsE (entsTo F k)) ∧ Below (w.heap.size + 1) (w.alloc (.cells (arr F) 241)) wr)
    (fun _ i _ => 16 - (intOf i).toNat)
  case atStart => exact ⟨0, Nat.zero_le _, rfl, HR.out, World.ownsRow_nil _ _ _ _, Below.refl _ _⟩
  case round =>
    obtain ⟨k, hk, rfl, hw0, ho, hb⟩ := hrel
    have hb2 : Below w.heap.size w wr := ((Below.refl _ _).alloc (Nat.le_refl _) _).trans (hb.mono (by omega))
    have hsz2 := hb.size
    have hsz : w.heap.size + 1 ≤ wr.heap.size := by simpa using hsz2
    have hel := entsTo_len F k
    clear HR hsz2
    by_cases hlt : k < 16
    · have c0 : wr.cell? ⟨w.heap.size, k, none⟩ = some (.int .i64 (F k)) := by rw [cell_of_row _ _ _ _ _ _ hw0]; exact arr_at _ _ hlt
      by_cases hF : 0 < F k
      · have HE : Hid (entsTo F (k + 1) = entsTo F k ++ [((k : Int), F k)]) := by show _ = _; simp [entsTo, hF]
        have HW : Hid (wr.heap[w.heap.size]? = some (.cells (arr F) 241 (0, 0))) := hw0
        clear hw0
        go_wp2_with (first
          | (at_builtin; refine wpList_append_own _ rfl _ _ 109 rfl (w.heap.size + 1) 183 i0 (.agg #[.int .i64 0, .int .i64 0]) 2 16 Tryz.underlying109 hi hz0 hz1 hz2 rfl (by decide) _ _ _ rfl (ho.alloc _) ⟨wr.heap.size, 0, none⟩ 1 1 [.int .i64 (k : Int), .int .i64 (F k)] rfl rfl ?c1 ?c2 ?c3 ?c4 ?c5 ?_))
        case c1 => exact cell_two_new _ _ _ _
        case c2 => intro u hu; simp at hu; rcases hu with rfl | rfl <;> rfl
        case c3 => unfold maxLen; omega
        case c4 => omega
        case c5 => simp; omega
        · intro v' w2 hown' hgrow _
          have hb3 : Below (w.heap.size + 1) (w.alloc (.cells (arr F) 241)) w2 := (hb.alloc (by omega) _).grown hgrow (by simp; omega) (fun q hq => (ho.lt q hq).1)
          have hw2 : w2.heap[w.heap.size]? = some (.cells (arr F) 241 (0, 0)) := (hb3.block _ (by omega)).trans (alloc_last w _)
          have HW2 : Hid (w2.heap[w.heap.size]? = some (.cells (arr F) 241 (0, 0))) := hw2
          clear hw2
          go_wp2
          go_roundw
          case rel => exact ⟨k + 1, by omega, by go_num, HW2.out, by rw [HE.out, List.length_append, cellsE_snoc]; exact hown', hb3⟩
          case measure => simp [intOf]; omega
      · have HE : Hid (entsTo F (k + 1) = entsTo F k) := by show _ = _; simp [entsTo, hF]
        go_wp2
        go_roundw
        case rel => exact ⟨k + 1, by omega, by go_num, hw0, by rw [HE.out]; exact ho, hb⟩
        case measure => simp [intOf]; omega
    · obtain rfl : k = 16 := by omega
      go_wp2
      go_ret
      exact ⟨_, rfl, own_base ho (by omega), hb2⟩

/-- The greater of two counts at the first k nodes. -/
def bth (F G : Nat → Int) (k : Nat) : Nat → Int := fun n => if n < k then max (F n) (G n) else F n
theorem bth_at (F G : Nat → Int) (k n : Nat) (h : k ≤ n) : bth F G k n = F n := by unfold bth; rw [if_neg (by omega)]
theorem bth_yes (F G : Nat → Int) (k m : Nat) (h : F k < G k) : bth F G (k + 1) m = if m = k then G k else bth F G k m := by
  unfold bth
  by_cases e : m = k
  · subst e; rw [if_pos (by omega), if_pos rfl]; omega
  · rw [if_neg e]
    by_cases h2 : m < k
    · rw [if_pos (by omega), if_pos h2]
    · rw [if_neg (by omega), if_neg h2]
theorem bth_no (F G : Nat → Int) (k : Nat) (h : ¬ F k < G k) : bth F G (k + 1) = bth F G k := by
  funext m
  unfold bth
  by_cases e : m = k
  · subst e; rw [if_pos (by omega), if_neg (by omega)]; omega
  · by_cases h2 : m < k
    · rw [if_pos (by omega), if_pos h2]
    · rw [if_neg (by omega), if_neg h2]
theorem one_arr' (F : Nat → Int) : (arr F).all (·.oneCell') = true := by
  rw [Array.all_eq_true_iff_forall_mem]
  intro x hx
  simp [arr] at hx
  obtain ⟨n, _, rfl⟩ := hx
  rfl
theorem three_new (w : World) (A B C : Array Value) : (((w.alloc (.cells A 241)).alloc (.cells B 241)).alloc (.cells C 241)).heap[w.heap.size]? = some (.cells A 241 (0, 0)) ∧ (((w.alloc (.cells A 241)).alloc (.cells B 241)).alloc (.cells C 241)).heap[w.heap.size + 1]? = some (.cells B 241 (0, 0)) ∧
      (((w.alloc (.cells A 241)).alloc (.cells B 241)).alloc (.cells C 241)).heap[w.heap.size + 1 + 1]? = some (.cells C 241 (0, 0)) ∧ Below w.heap.size w (((w.alloc (.cells A 241)).alloc (.cells B 241)).alloc (.cells C 241)) := by
  refine ⟨?_, ?_, ?_, (((Below.refl _ _).alloc (Nat.le_refl _) _).alloc (by simp) _).alloc (by simp; omega) _⟩
  · rw [Below.heap_alloc _ _ _ (by simp; omega)]; exact heap_alloc2_old w _ _
  · rw [Below.heap_alloc _ _ _ (by simp)]; exact heap_alloc2_new w _ _
  · have := heap_alloc_new ((w.alloc (.cells A 241)).alloc (.cells B 241)) (.cells C 241)
    simpa using this

set_option maxRecDepth 20000 in
set_option maxHeartbeats 400000 in
theorem refboth_any (F G : Nat → Int) (w : World) :
    Calls Tryz.prog 219 #[.agg (arr F), .agg (arr G)] w fun e w' => e = .returned (.agg (arr (bth F G 16))) ∧ Below w.heap.size w w' := by
  go_enter Tryz.func219, Tryz.ntmps219
  go_wp2_with fail
  have HR : Hid (∀ A B C : Array Value, (((w.alloc (.cells A 241)).alloc (.cells B 241)).alloc (.cells C 241)).heap[w.heap.size]? = some (.cells A 241 (0, 0)) ∧ (((w.alloc (.cells A 241)).alloc (.cells B 241)).alloc (.cells C 241)).heap[w.heap.size + 1]? = some (.cells B 241 (0, 0)) ∧
      (((w.alloc (.cells A 241)).alloc (.cells B 241)).alloc (.cells C 241)).heap[w.heap.size + 1 + 1]? = some (.cells C 241 (0, 0)) ∧ Below w.heap.size w (((w.alloc (.cells A 241)).alloc (.cells B 241)).alloc (.cells C 241))) := three_new w
  go_loopw [5] (fun i wr => ∃ k : Nat, k ≤ 16 ∧ i = .int .i64 k ∧ wr.heap[w.heap.size]? = some (.cells (arr (bth F G k)) 241 (0, 0)) ∧ wr.heap[w.heap.size + 1]? = some (.cells (arr G) 241 (0, 0)) ∧
      wr.heap[w.heap.size + 1 + 1]? = some (.cells (arr (fun _ => 0)) 241 (0, 0)) ∧ Below w.heap.size w wr)
    (fun i _ => 16 - (intOf i).toNat)
  case atStart => exact ⟨0, Nat.zero_le _, rfl, (HR.out _ _ (arr (fun _ => 0))).1, (HR.out _ _ (arr (fun _ => 0))).2.1, (HR.out _ _ (arr (fun _ => 0))).2.2.1, (HR.out _ _ _).2.2.2⟩
  case round =>
    obtain ⟨k, hk, rfl, h0, h1, h2, hb⟩ := hrel
    clear HR
    have H0 : Hid (wr.heap[w.heap.size]? = some (.cells (arr (bth F G k)) 241 (0, 0))) := h0
    have H1 : Hid (wr.heap[w.heap.size + 1]? = some (.cells (arr G) 241 (0, 0))) := h1
    have H2 : Hid (wr.heap[w.heap.size + 1 + 1]? = some (.cells (arr (fun _ => 0)) 241 (0, 0))) := h2
    by_cases hlt : k < 16
    · have c0 : wr.cell? ⟨w.heap.size, k, none⟩ = some (.int .i64 (F k)) := by rw [cell_of_row _ _ _ _ _ _ h0, arr_at _ _ hlt, bth_at F G k k (by omega)]
      have c1 : wr.cell? ⟨w.heap.size + 1, k, none⟩ = some (.int .i64 (G k)) := by rw [cell_of_row _ _ _ _ _ _ h1]; exact arr_at _ _ hlt
      have cf : wr.frozen? ⟨w.heap.size, k, none⟩ = false := frozen_of_row _ _ _ _ _ h0
      clear h0 h1 h2
      by_cases hgt : F k < G k
      · go_wp2_with fail
        go_quiet (fail)
        generalize hwq : wr.drewN _ = wq
        have HQ : Hid (∃ n, wq = wr.drewN n) := ⟨_, hwq.symm⟩
        have d1 : wq.cell? ⟨w.heap.size + 1, k, none⟩ = some (.int .i64 (G k)) := by rw [← hwq]; exact c1
        have d0 : wq.cell? ⟨w.heap.size, k, none⟩ = some (.int .i64 (F k)) := by rw [← hwq]; exact c0
        have df : wq.frozen? ⟨w.heap.size, k, none⟩ = false := by rw [← hwq]; exact cf
        clear c0 c1 cf hwq
        go_wp2
        go_roundw
        case rel =>
          obtain ⟨n, rfl⟩ := HQ.out
          refine ⟨k + 1, by omega, by go_num, ?_, ?_, ?_, (below_drewN hb n).setCell (Nat.le_refl _) _⟩
          · rw [heap_setCell_same (wr.drewN n) _ _ _ _ _ H0.out]
            congr 2
            exact arr_set _ _ _ _ (fun m => bth_yes F G k m hgt)
          · rw [heap_setCell_other _ _ _ _ (by simp)]; exact H1.out
          · rw [heap_setCell_other _ _ _ _ (by simp; omega)]; exact H2.out
        case measure => simp [intOf]; omega
      · have HE : Hid (bth F G (k + 1) = bth F G k) := bth_no F G k hgt
        go_wp2_with fail
        go_quiet (fail)
        go_wp2
        go_roundw
        case rel => exact ⟨k + 1, by omega, by go_num, by rw [HE.out]; exact H0.out, H1.out, H2.out, below_drewN hb _⟩
        case measure => simp [intOf]; omega
    · obtain rfl : k = 16 := by omega
      clear h0 h1 h2
      go_wp2_with (first
        | (refine wpList_load_row rfl 241 _ rfl w.heap.size rfl 241 (arr (bth F G 16)) (0, 0) _ H0.out Tryz.underlying241 rfl (by rw [arr_size]; exact info61) ?_)
        | (refine wpList_store_row rfl 241 _ _ rfl (w.heap.size + 1 + 1) (arr (bth F G 16)) rfl rfl 241 (arr (fun _ => 0)) H2.out (by rw [arr_size]; exact info61) (by rw [arr_size, arr_size]) (one_arr' _) ?_))
      exact bodyPost_ret (results_cell_row rfl _ _ (w.heap.size + 1 + 1) 241 (arr (bth F G 16)) (0, 0) _ rfl (setRow_heap _ _ _ _ _ _ H2.out) Tryz.underlying241 rfl (by rw [arr_size]; exact info61)) rfl ⟨rfl, below_setRow hb (by omega) _⟩
end Go.Proofs.YtilkdeghknjjhaaGreatDoor
