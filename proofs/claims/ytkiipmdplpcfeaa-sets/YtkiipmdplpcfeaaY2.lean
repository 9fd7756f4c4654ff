/- The contract of slices.Insert of one value within the row. -/
import Derived.Test.YtkiipmdplpcfeaaY
import Derived.WalkKit
import Derived.WalkSpells
import Derived.WalkLawsBesides
import Derived.Deep.QuietTactic
import Derived.BigQuiet
import Derived.Deep.RegionLaw
import Derived.Lib.Overlaps
import Derived.Laws.Externs
namespace Go.Proofs.Ytkiipmdplpcfeaa
open Go.RowKit M
set_option linter.unusedVariables false

theorem size57r : ∀ w, (Go.sizeOf 57).run Try.prog w = .ok 3 w := fun w => by
  obtain ⟨i0, hi, hz0, hz1, hz2⟩ := info_parts Try.info57
  simp [sizeOf, typeInfo, hi, hz1]
theorem shape_of {w : World} {g : Nat} {cs : Array Value} {t : TypeId} (h : w.heap[g]? = some (.cells cs t (0, 0))) : w.shape? g = some (t, cs.size) := by
  simp [World.shape?, h]
theorem overlaps_no (w : World) (g g2 o la ca lb cb : Nat) (cur : Array Value) (x : Array Value) (hne : g2 ≠ g) (hg : w.heap[g]? = some (.cells cur 57 (0, 0))) (hx : w.heap[g2]? = some (.cells x 57 (0, 0))) (hc : cur.size ≠ 0) :
    (callFunc 56 #[.slice (some ⟨g2, 0, none⟩) la ca, .slice (some ⟨g, o, none⟩) lb cb]).run Try.prog w = .ok (.value (.bool false)) w := by
  rw [run_callFunc_extern Try.func56 (by kernel_rfl) (by kernel_rfl) (by kernel_rfl) (e := Extern.SlicesOverlaps.overlaps #[36, 36] #[4]) (by kernel_rfl),
    Lib.run_overlaps_apart w 36 4 57 Try.underlying36 3 size57r ⟨g2, 0, none⟩ ⟨g, o, none⟩ la ca lb cb hne 57 57 x.size cur.size (shape_of hx) (shape_of hg) hc (frozen_of_row _ _ _ _ _ hx) (frozen_of_row _ _ _ _ _ hx)]
  rfl

set_option maxRecDepth 40000 in
set_option maxHeartbeats 1600000 in
theorem Insert_shift (B g cap : Nat) (cur : List Value) (l : List Sb) (x : Sb) (g2 c2 k : Nat) (w : World) (hBg : B ≤ g) (hB : B ≤ w.heap.size) (hg : w.heap[g]? = some (.cells cur.toArray 57 (0, 0))) (hsz : cur.length = cap * 3)
    (htk : cur.take (l.length * 3) = cellsS l) (hcm : cap ≤ maxLen) (hl : l.length ≤ 1000) (hk : k < l.length) (hroom : l.length + 1 ≤ cap) (hne : g2 ≠ g)
    (hx : w.heap[g2]? = some (.cells #[Value.int .i64 x.n, Value.int .i64 x.c, Value.string x.v] 57 (0, 0))) :
    Calls Try.prog 53 #[.slice (some ⟨g, 0, none⟩) l.length cap, .int .i64 (k : Int), .slice (some ⟨g2, 0, none⟩) 1 c2] w fun e w' => ∃ v', e = .returned v' ∧ w'.ownsRow B 57 3 v' (l.length + 1) (cellsS (put l k x)) ∧ Below B w w' := by
  have hl1 : (l.length : Int) ≤ 1000 := by omega
  have hc1 : cap ≤ 9223372036854775807 := by simp only [maxLen] at hcm; omega
  have hov := fun lb cb => overlaps_no w g g2 ((k + 1) * 3) 1 c2 lb cb cur.toArray _ hne hg hx (by rw [List.size_toArray, hsz]; omega)
  have s1 : ¬ ((1 : Int) = 0) := by omega
  have s2 : ¬ ((k : Int) = (l.length : Int)) := by omega
  have s2' : ((k : Int) == (l.length : Int)) = false := by simp; omega
  have s3 : ¬ cap = k := by omega
  have s4 : ¬ cap = k + 1 := by omega
  have s5 : (k : Int) < (l.length : Int) := by omega
  have s6 : (l.length : Int) + 1 ≤ (cap : Int) := by omega
  have hd3 : (cellsS (l.drop k)).length = (l.length - k) * 3 := by rw [cellsS_len]; simp
  have hcell : ∀ j u, (cellsS (l.drop k))[j]? = some u → cur[k * 3 + j]? = some u := by
    intro j u hu
    have hj : j < (l.length - k) * 3 := by rw [← hd3]; exact (List.getElem?_eq_some_iff.1 hu).1
    rw [← cellsS_drop l k (by omega), List.getElem?_drop, ← htk, List.getElem?_take] at hu
    rw [if_pos (by omega)] at hu
    exact hu
  have hr1 : ∀ ty, (Builtin.copy_ #[36, 36] ty #[.slice (some ⟨g, (k + 1) * 3, none⟩) (l.length - k) (cap - (k + 1)), .slice (some ⟨g, k * 3, none⟩) (l.length + 1 - k) (cap - k)]).run Try.prog w.drew =
      .ok (goInt ((l.length - k : Nat) : Int)) (w.drew.setRow g (cur.take ((k + 1) * 3) ++ cellsS (l.drop k) ++ cur.drop ((k + 1) * 3 + (cellsS (l.drop k)).length)).toArray) := fun ty =>
    run_copy_into w.drew 36 36 ty 57 3 g ((k + 1) * 3) (l.length - k) (cap - (k + 1)) (l.length - k) ⟨g, k * 3, none⟩ (l.length + 1 - k) (cap - k) cur 57 (cellsS (l.drop k)) Try.underlying36 size57 hg (by simp only [Nat.min_def]; split <;> omega) hd3
      (fun j u hu => by rw [Addr.add_lit, cell_of_row w.drew _ _ _ _ _ hg]; simpa using hcell j u hu) (by rw [hd3, hsz]; omega) (one_cellsS _)
  obtain ⟨R1, hR1⟩ : ∃ R1, cur.take ((k + 1) * 3) ++ cellsS (l.drop k) ++ cur.drop ((k + 1) * 3 + (cellsS (l.drop k)).length) = R1 := ⟨_, rfl⟩
  have hR1l : R1.length = cap * 3 := by
    rw [← hR1]
    simp only [List.length_append, List.length_take, List.length_drop, hsz, hd3]
    omega
  rw [hR1] at hr1
  have hg1 : (w.drew.setRow g R1.toArray).heap[g]? = some (.cells R1.toArray 57 (0, 0)) := setRow_heap w.drew g cur.toArray _ 57 _ hg
  have hx1 : (w.drew.setRow g R1.toArray).heap[g2]? = some (.cells #[Value.int .i64 x.n, Value.int .i64 x.c, Value.string x.v] 57 (0, 0)) := (setRow_other w.drew g g2 _ hne).trans hx
  have hr2 : ∀ ty, (Builtin.copy_ #[36, 36] ty #[.slice (some ⟨g, k * 3, none⟩) (l.length + 1 - k) (cap - k), .slice (some ⟨g2, 0, none⟩) 1 c2]).run Try.prog (w.drew.setRow g R1.toArray) =
      .ok (goInt ((1 : Nat) : Int)) ((w.drew.setRow g R1.toArray).setRow g (R1.take (k * 3) ++ [Value.int .i64 x.n, Value.int .i64 x.c, Value.string x.v] ++ R1.drop (k * 3 + 3)).toArray) := fun ty =>
    run_copy_into _ 36 36 ty 57 3 g (k * 3) (l.length + 1 - k) (cap - k) 1 ⟨g2, 0, none⟩ 1 c2 R1 57 [Value.int .i64 x.n, Value.int .i64 x.c, Value.string x.v] Try.underlying36 size57 hg1 (by simp only [Nat.min_def]; split <;> omega) rfl
      (fun j u hu => by rw [Addr.add_lit, cell_of_row _ _ _ _ _ _ hx1]; simpa using hu) (by rw [hR1l]; simp; omega) (fun u hu => by simp at hu; rcases hu with rfl | rfl | rfl <;> rfl)
  obtain ⟨R2, hR2⟩ : ∃ R2, R1.take (k * 3) ++ [Value.int .i64 x.n, Value.int .i64 x.c, Value.string x.v] ++ R1.drop (k * 3 + 3) = R2 := ⟨_, rfl⟩
  rw [hR2] at hr2
  have hfin : ((w.drew.setRow g R1.toArray).setRow g R2.toArray).ownsRow B 57 3 (.slice (some ⟨g, 0, none⟩) (l.length + 1) cap) (l.length + 1) (cellsS (put l k x)) := by
    refine ⟨by rw [cellsS_len, put_len l k x (by omega)], .inr ⟨g, cap, R2.toArray, rfl, hBg, setRow_heap _ _ _ _ _ _ hg1, hroom, hcm, ?_, ?_⟩⟩
    · rw [List.size_toArray, ← hR2]
      simp only [List.length_append, List.length_take, List.length_drop, hR1l, List.length_cons, List.length_nil]
      omega
    · show R2.take ((l.length + 1) * 3) = _
      rw [cellsS_put, ← hR2, ← hR1]
      have e1 : (cur.take ((k + 1) * 3) ++ cellsS (l.drop k) ++ cur.drop ((k + 1) * 3 + (cellsS (l.drop k)).length)).take (k * 3) = cellsS (l.take k) := by
        rw [List.append_assoc, List.take_append_of_le_length (by rw [List.length_take, hsz]; omega), List.take_take, Nat.min_eq_left (by omega), ← cellsS_take l k (by omega), ← htk, List.take_take, Nat.min_eq_left (by omega)]
      have e2 : (cur.take ((k + 1) * 3) ++ cellsS (l.drop k) ++ cur.drop ((k + 1) * 3 + (cellsS (l.drop k)).length)).drop (k * 3 + 3) = cellsS (l.drop k) ++ cur.drop ((k + 1) * 3 + (cellsS (l.drop k)).length) := by
        rw [List.append_assoc, List.drop_append, List.drop_eq_nil_of_le (by rw [List.length_take, hsz]; omega), List.length_take, hsz, List.nil_append, show k * 3 + 3 - min ((k + 1) * 3) (cap * 3) = 0 by omega]
        rfl
      rw [e1, e2]
      have e3 : (cellsS (l.take k) ++ [Value.int .i64 x.n, Value.int .i64 x.c, Value.string x.v] ++ (cellsS (l.drop k) ++ cur.drop ((k + 1) * 3 + (cellsS (l.drop k)).length))) =
          (cellsS (l.take k) ++ [Value.int .i64 x.n, Value.int .i64 x.c, Value.string x.v] ++ cellsS (l.drop k)) ++ cur.drop ((k + 1) * 3 + (cellsS (l.drop k)).length) := by simp only [List.append_assoc]
      rw [e3]
      refine (List.take_append_of_le_length ?_).trans (List.take_of_length_le ?_)
      · simp only [List.length_append, hd3, cellsS_len, List.length_take, List.length_cons, List.length_nil]; omega
      · simp only [List.length_append, hd3, cellsS_len, List.length_take, List.length_cons, List.length_nil]; omega
  have hbel : Below B w ((w.drew.setRow g R1.toArray).setRow g R2.toArray) := below_setRow (below_setRow ((Below.refl B w).drew) hBg _) hBg _
  have HF : Hid (((w.drew.setRow g R1.toArray).setRow g R2.toArray).ownsRow B 57 3 (.slice (some ⟨g, 0, none⟩) (l.length + 1) cap) (l.length + 1) (cellsS (put l k x)) ∧ Below B w ((w.drew.setRow g R1.toArray).setRow g R2.toArray)) := ⟨hfin, hbel⟩
  have H1 : Hid (∀ ty, (Builtin.copy_ #[36, 36] ty #[.slice (some ⟨g, (k + 1) * 3, none⟩) (l.length - k) (cap - (k + 1)), .slice (some ⟨g, k * 3, none⟩) (l.length + 1 - k) (cap - k)]).run Try.prog w.drew = .ok (goInt ((l.length - k : Nat) : Int)) (w.drew.setRow g R1.toArray)) := hr1
  have H2 : Hid (∀ ty, (Builtin.copy_ #[36, 36] ty #[.slice (some ⟨g, k * 3, none⟩) (l.length + 1 - k) (cap - k), .slice (some ⟨g2, 0, none⟩) 1 c2]).run Try.prog (w.drew.setRow g R1.toArray) = .ok (goInt ((1 : Nat) : Int)) ((w.drew.setRow g R1.toArray).setRow g R2.toArray)) := hr2
  clear hfin hbel hr1 hr2 hg hx htk hsz hcell hd3 hR1 hR1l hR2 hg1 hx1
  go_enter Try.func53, Try.ntmps53
  go_wp2_with (simp only [hov])
  have hw1 : IntKind.i64.wrap ((k : Int) + 1) = (k : Int) + 1 := by rw [IntKind.wrap_i64]; omega
  have hb1 : (0 : Int) ≤ (k : Int) + 1 := by omega
  have htn : ((k : Int) + 1).toNat = k + 1 := by omega
  have hb3 : (k : Int) ≤ (l.length : Int) := by omega
  have hb4 : (k : Int) ≤ (l.length : Int) + 1 := by omega
  go_region_law (refine step_copy_known rfl _ _ 36 36 rfl (.slice (some ⟨g, (k + 1) * 3, none⟩) (l.length - k) (cap - (k + 1))) (.slice (some ⟨g, k * 3, none⟩) (l.length + 1 - k) (cap - k)) (by simp [Act.eval, Act.put]) (by simp [Act.eval, Act.put]) H1.out ?_)
  go_wp2_with (refine wpList_copy_known _ rfl _ _ 36 36 rfl (.slice (some ⟨g, k * 3, none⟩) (l.length + 1 - k) (cap - k)) (.slice (some ⟨g2, 0, none⟩) 1 c2) rfl rfl H2.out ?_)
  go_ret
  exact ⟨_, rfl, HF.out.1, HF.out.2⟩
end Go.Proofs.Ytkiipmdplpcfeaa
