/- The contract of slices.Insert of one value where the row must grow. -/
import Derived.Test.YtkiipmdplpcfeaaY2
import Derived.WalkKit
import Derived.WalkSpells
import Derived.WalkLawsBesides
import Derived.Deep.QuietTactic
import Derived.BigQuiet
import Derived.Deep.RegionLaw
import Derived.Lib.AppendZerosOnto
namespace Go.Proofs.Ytkiipmdplpcfeaa
open Go.RowKit M
set_option linter.unusedVariables false

set_option maxRecDepth 40000 in
set_option maxHeartbeats 1600000 in
theorem Insert_grow (B g cap : Nat) (cur : List Value) (l : List Sb) (x : Sb) (g2 c2 k : Nat) (w : World) (hB : B ≤ w.heap.size) (hg : w.heap[g]? = some (.cells cur.toArray 57 (0, 0))) (hsz : cur.length = cap * 3)
    (htk : cur.take (l.length * 3) = cellsS l) (hcl : l.length ≤ cap) (hl : l.length ≤ 1000) (hk : k < l.length) (hroom : cap < l.length + 1)
    (hx : w.heap[g2]? = some (.cells #[Value.int .i64 x.n, Value.int .i64 x.c, Value.string x.v] 57 (0, 0))) :
    Calls Try.prog 53 #[.slice (some ⟨g, 0, none⟩) l.length cap, .int .i64 (k : Int), .slice (some ⟨g2, 0, none⟩) 1 c2] w fun e w' => ∃ v', e = .returned v' ∧ w'.ownsRow B 57 3 v' (l.length + 1) (cellsS (put l k x)) ∧ Below B w w' := by
  obtain ⟨i0, hi, hz0, hz1, hz2⟩ := info_parts Try.info57
  obtain rfl : cap = l.length := by omega
  have hl1 : (l.length : Int) ≤ 1000 := by omega
  have hgw : g < w.heap.size := (Array.getElem?_eq_some_iff.1 hg).1
  have hxw : g2 < w.heap.size := (Array.getElem?_eq_some_iff.1 hx).1
  have hd3 : (cellsS (l.drop k)).length = (l.length - k) * 3 := by rw [cellsS_len]; simp
  have ht3 : (cellsS (l.take k)).length = k * 3 := by rw [cellsS_len]; simp; omega
  have hcur : cur = cellsS l := by rw [← htk, List.take_of_length_le (by omega)]
  have hold : (Builtin.firstCells i0.size k (.slice (some ⟨g, 0, none⟩) k l.length)).run Try.prog w.drew = .ok (cellsS (l.take k)).toArray w.drew :=
    run_firstCells_some w.drew i0.size k ⟨g, 0, none⟩ k l.length (cellsS (l.take k)) (by rw [hz1, ht3]) (fun j u hu => by
      rw [Addr.add_lit, cell_of_row w.drew _ _ _ _ _ hg, hcur, Nat.zero_add]
      rw [← cellsS_take l k (by omega), List.getElem?_take] at hu
      split at hu
      · simpa using hu
      · cases hu)
  obtain ⟨G, hG⟩ : ∃ G, grownCap w (l.length + 1) l.length 57 = G := ⟨_, rfl⟩
  have hGn : l.length + 1 ≤ G := by rw [← hG]; exact grownCap_ge _ _ _ _
  have hGm : G ≤ maxLen := by rw [← hG]; exact grownCap_le_maxLen _ _ _ _ (by unfold maxLen; omega)
  have hGm' : G ≤ 9223372036854775807 := by simp only [maxLen] at hGm; omega
  obtain ⟨R0, hR0⟩ : ∃ R0 : List Value, cellsS (l.take k) ++ (Builtin.zeroCells (Value.agg #[.int .i64 0, .int .i64 0, .string ByteArray.empty]).cells (l.length + 1 - k)).toList ++ (Builtin.zeroCells (Value.agg #[.int .i64 0, .int .i64 0, .string ByteArray.empty]).cells (G - (l.length + 1))).toList = R0 := ⟨_, rfl⟩
  have hR0l : R0.length = G * 3 := by
    rw [← hR0]
    simp only [List.length_append, ht3, Array.length_toList, Builtin.zeroCells, Array.size_map, Array.size_range, Value.cells]
    simp only [List.size_toArray, List.length_cons, List.length_nil]
    omega
  have hR0t : R0.take (k * 3) = cellsS (l.take k) := by
    rw [← hR0, List.append_assoc]
    refine (List.take_append_of_le_length (by omega)).trans (List.take_of_length_le (by omega))
  have happ : ∀ ty, (Builtin.append_ #[36, 3] ty #[.slice (some ⟨g, 0, none⟩) k l.length, .int .i64 ((l.length : Int) + 1 - (k : Int))]).run Try.prog w =
      .ok (.slice (some ⟨w.heap.size, 0, none⟩) (l.length + 1) G) (w.drew.alloc (.cells R0.toArray 57)) := fun ty => by
    have h := Lib.run_append_grow_zeros (P := Try.prog) w 36 3 ty 57 i0 _ .i64 .i64 Try.underlying36 Try.underlying3 hi hz0 (some ⟨g, 0, none⟩) k l.length (cellsS (l.take k)) hold (l.length + 1 - k) (by omega) (by omega) (by omega) (by omega) (by rw [hz2]; omega) (by rw [hz2]; exact growslice_fits (by omega) (by omega))
    rw [show k + (l.length + 1 - k) = l.length + 1 by omega, show (((l.length + 1 - k : Nat)) : Int) = (l.length : Int) + 1 - (k : Int) by omega, hG] at h
    rw [h, ← hR0]
    congr 3
    apply Array.ext'
    simp
  obtain ⟨W1, hW1⟩ : ∃ W1, w.drew.alloc (.cells R0.toArray 57) = W1 := ⟨_, rfl⟩
  have hn1 : W1.heap[w.heap.size]? = some (.cells R0.toArray 57 (0, 0)) := by rw [← hW1]; exact heap_alloc_new w.drew _
  have hg1 : W1.heap[g]? = some (.cells cur.toArray 57 (0, 0)) := by rw [← hW1]; exact (heap_alloc_old w.drew _ hgw).trans hg
  have hx1 : W1.heap[g2]? = some (.cells #[Value.int .i64 x.n, Value.int .i64 x.c, Value.string x.v] 57 (0, 0)) := by rw [← hW1]; exact (heap_alloc_old w.drew _ hxw).trans hx
  have hb1' : Below B w W1 := by rw [← hW1]; exact (Below.refl B w).drew.alloc hB _
  have hneg : g ≠ w.heap.size := by omega
  have hnex : g2 ≠ w.heap.size := by omega
  rw [hW1] at happ
  clear hW1
  obtain ⟨N, hN⟩ : ∃ N, w.heap.size = N := ⟨_, rfl⟩
  have hBN : B ≤ N := by omega
  rw [hN] at happ hn1 hneg hnex
  have hr2 : ∀ ty, (Builtin.copy_ #[36, 36] ty #[.slice (some ⟨N, k * 3, none⟩) (l.length + 1 - k) (G - k), .slice (some ⟨g2, 0, none⟩) 1 c2]).run Try.prog W1 =
      .ok (goInt ((1 : Nat) : Int)) (W1.setRow N (R0.take (k * 3) ++ [Value.int .i64 x.n, Value.int .i64 x.c, Value.string x.v] ++ R0.drop (k * 3 + 3)).toArray) := fun ty =>
    run_copy_into _ 36 36 ty 57 3 N (k * 3) (l.length + 1 - k) (G - k) 1 ⟨g2, 0, none⟩ 1 c2 R0 57 [Value.int .i64 x.n, Value.int .i64 x.c, Value.string x.v] Try.underlying36 size57 hn1 (by simp only [Nat.min_def]; split <;> omega) rfl
      (fun j u hu => by rw [Addr.add_lit, cell_of_row _ _ _ _ _ _ hx1]; simpa using hu) (by rw [hR0l]; simp; omega) (fun u hu => by simp at hu; rcases hu with rfl | rfl | rfl <;> rfl)
  rw [hR0t] at hr2
  obtain ⟨R1, hR1⟩ : ∃ R1, cellsS (l.take k) ++ [Value.int .i64 x.n, Value.int .i64 x.c, Value.string x.v] ++ R0.drop (k * 3 + 3) = R1 := ⟨_, rfl⟩
  rw [hR1] at hr2
  have hR1l : R1.length = G * 3 := by
    rw [← hR1]
    simp only [List.length_append, ht3, List.length_drop, hR0l, List.length_cons, List.length_nil]
    omega
  have hR1t : R1.take ((k + 1) * 3) = cellsS (l.take k) ++ [Value.int .i64 x.n, Value.int .i64 x.c, Value.string x.v] := by
    rw [← hR1]
    refine (List.take_append_of_le_length ?_).trans (List.take_of_length_le ?_)
    · simp only [List.length_append, ht3, List.length_cons, List.length_nil]; omega
    · simp only [List.length_append, ht3, List.length_cons, List.length_nil]; omega
  have hn2 : (W1.setRow N R1.toArray).heap[N]? = some (.cells R1.toArray 57 (0, 0)) := setRow_heap W1 N _ _ 57 _ hn1
  have hg2 : (W1.setRow N R1.toArray).heap[g]? = some (.cells cur.toArray 57 (0, 0)) := (setRow_other W1 N g _ hneg).trans hg1
  have hr3 : ∀ ty, (Builtin.copy_ #[36, 36] ty #[.slice (some ⟨N, (k + 1) * 3, none⟩) (l.length + 1 - (k + 1)) (G - (k + 1)), .slice (some ⟨g, k * 3, none⟩) (l.length - k) (l.length - k)]).run Try.prog (W1.setRow N R1.toArray).drew =
      .ok (goInt ((l.length - k : Nat) : Int)) ((W1.setRow N R1.toArray).drew.setRow N (R1.take ((k + 1) * 3) ++ cellsS (l.drop k) ++ R1.drop ((k + 1) * 3 + (cellsS (l.drop k)).length)).toArray) := fun ty =>
    run_copy_into _ 36 36 ty 57 3 N ((k + 1) * 3) (l.length + 1 - (k + 1)) (G - (k + 1)) (l.length - k) ⟨g, k * 3, none⟩ (l.length - k) (l.length - k) R1 57 (cellsS (l.drop k)) Try.underlying36 size57 hn2 (by simp only [Nat.min_def]; split <;> omega) hd3
      (fun j u hu => by
        rw [Addr.add_lit, cell_of_row (W1.setRow N R1.toArray).drew _ _ _ _ _ hg2, hcur]
        rw [← cellsS_drop l k (by omega), List.getElem?_drop] at hu
        simpa using hu) (by rw [hd3, hR1l]; omega) (one_cellsS _)
  rw [hR1t] at hr3
  obtain ⟨R2, hR2⟩ : ∃ R2, cellsS (l.take k) ++ [Value.int .i64 x.n, Value.int .i64 x.c, Value.string x.v] ++ cellsS (l.drop k) ++ R1.drop ((k + 1) * 3 + (cellsS (l.drop k)).length) = R2 := ⟨_, rfl⟩
  rw [hR2] at hr3
  have hfin : ((W1.setRow N R1.toArray).drew.setRow N R2.toArray).ownsRow B 57 3 (.slice (some ⟨N, 0, none⟩) (l.length + 1) G) (l.length + 1) (cellsS (put l k x)) := by
    refine ⟨by rw [cellsS_len, put_len l k x (by omega)], .inr ⟨N, G, R2.toArray, rfl, hBN, setRow_heap _ _ _ _ _ _ hn2, hGn, hGm, ?_, ?_⟩⟩
    · rw [List.size_toArray, ← hR2]
      simp only [List.length_append, ht3, hd3, List.length_drop, hR1l, List.length_cons, List.length_nil]
      omega
    · show R2.take ((l.length + 1) * 3) = _
      rw [cellsS_put, ← hR2]
      refine (List.take_append_of_le_length ?_).trans (List.take_of_length_le ?_)
      · simp only [List.length_append, ht3, hd3, List.length_cons, List.length_nil]; omega
      · simp only [List.length_append, ht3, hd3, List.length_cons, List.length_nil]; omega
  have hbel : Below B w ((W1.setRow N R1.toArray).drew.setRow N R2.toArray) := below_setRow (below_setRow hb1' hBN _).drew hBN _
  have HF : Hid (((W1.setRow N R1.toArray).drew.setRow N R2.toArray).ownsRow B 57 3 (.slice (some ⟨N, 0, none⟩) (l.length + 1) G) (l.length + 1) (cellsS (put l k x)) ∧ Below B w ((W1.setRow N R1.toArray).drew.setRow N R2.toArray)) := ⟨hfin, hbel⟩
  have H1 : Hid (∀ ty, (Builtin.append_ #[36, 3] ty #[.slice (some ⟨g, 0, none⟩) k l.length, .int .i64 ((l.length : Int) + 1 - (k : Int))]).run Try.prog w =
      .ok (.slice (some ⟨N, 0, none⟩) (l.length + 1) G) W1) := happ
  have H2 : Hid (∀ ty, (Builtin.copy_ #[36, 36] ty #[.slice (some ⟨N, k * 3, none⟩) (l.length + 1 - k) (G - k), .slice (some ⟨g2, 0, none⟩) 1 c2]).run Try.prog W1 = .ok (goInt ((1 : Nat) : Int)) (W1.setRow N R1.toArray)) := hr2
  have H3 : Hid (∀ ty, (Builtin.copy_ #[36, 36] ty #[.slice (some ⟨N, (k + 1) * 3, none⟩) (l.length + 1 - (k + 1)) (G - (k + 1)), .slice (some ⟨g, k * 3, none⟩) (l.length - k) (l.length - k)]).run Try.prog (W1.setRow N R1.toArray).drew = .ok (goInt ((l.length - k : Nat) : Int)) ((W1.setRow N R1.toArray).drew.setRow N R2.toArray)) := hr3
  have s2 : ¬ ((k : Int) = (l.length : Int)) := by omega
  have s2' : ((k : Int) == (l.length : Int)) = false := by simp; omega
  have s3 : ¬ l.length = k := by omega
  have s4 : ¬ G = k + 1 := by omega
  have s7 : ¬ G = k := by omega
  have s5 : (k : Int) ≤ (G : Int) := by omega
  have s6 : (k : Int) + 1 ≤ (G : Int) := by omega
  have hw1 : IntKind.i64.wrap ((k : Int) + 1) = (k : Int) + 1 := by rw [IntKind.wrap_i64]; omega
  have hb1 : (0 : Int) ≤ (k : Int) + 1 := by omega
  have htn : ((k : Int) + 1).toNat = k + 1 := by omega
  have hb3 : (k : Int) ≤ (l.length : Int) := by omega
  have hb4 : (k : Int) ≤ (l.length : Int) + 1 := by omega
  have hb5 : (k : Int) + 1 ≤ (l.length : Int) + 1 := by omega
  clear hfin hbel hr2 hr3 happ hg hx htk hsz hcur hold hd3 ht3 hR0 hR0l hR0t hR1 hR1l hR1t hR2 hg1 hx1 hg2 hn1 hn2 hG hGm hb1' hi hz0 hz1 hz2
  go_enter Try.func53, Try.ntmps53
  go_wp2_with (first
    | (refine wpList_append_known _ rfl _ _ 36 3 rfl (.slice (some ⟨g, 0, none⟩) k l.length) (.int .i64 ((l.length : Int) + 1 - (k : Int))) rfl rfl H1.out ?_)
    | (refine wpList_copy_known _ rfl _ _ 36 36 rfl (.slice (some ⟨N, k * 3, none⟩) (l.length + 1 - k) (G - k)) (.slice (some ⟨g2, 0, none⟩) 1 c2) rfl rfl H2.out ?_))
  go_region_law (refine step_copy_known rfl _ _ 36 36 rfl (.slice (some ⟨N, (k + 1) * 3, none⟩) (l.length + 1 - (k + 1)) (G - (k + 1))) (.slice (some ⟨g, k * 3, none⟩) (l.length - k) (l.length - k)) (by simp [Act.eval, Act.put]) (by simp [Act.eval, Act.put]) H3.out ?_)
  go_wp2
  go_ret
  exact ⟨_, rfl, HF.out.1, HF.out.2⟩
end Go.Proofs.Ytkiipmdplpcfeaa
