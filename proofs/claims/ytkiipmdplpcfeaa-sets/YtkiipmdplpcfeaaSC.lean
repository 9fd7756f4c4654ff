/- given, whole. -/
import Derived.Test.YtkiipmdplpcfeaaSB
import Derived.WalkKit
import Derived.WalkSpells
import Derived.WalkLawsBesides
import Derived.Deep.QuietTactic
import Derived.BigQuiet
import Derived.Deep.RegionWith
import Derived.Deep.Cut
namespace Go.Proofs.Ytkiipmdplpcfeaa
open Go.RowKit M
set_option linter.unusedVariables false

theorem cells_ofS {w : World} {b off : Nat} {l : List Sb} (hr : ∀ j, j < l.length → w.cell? ⟨b, off + j * 3, none⟩ = some (.int .i64 (sb l j).n) ∧ w.cell? ⟨b, off + j * 3 + 1, none⟩ = some (.int .i64 (sb l j).c) ∧ w.cell? ⟨b, off + j * 3 + 2, none⟩ = some (.string (sb l j).v)) :
    ∀ j u, (cellsS l)[j]? = some u → w.cell? ((⟨b, off, none⟩ : Addr).add j) = some u := by
  intro j u hu
  have hj : j < l.length * 3 := by rw [← cellsS_len]; exact (List.getElem?_eq_some_iff.1 hu).1
  rw [Addr.add_lit]
  have h1 := cellsS_at l (j / 3) (by omega)
  have h2 := hr (j / 3) (by omega)
  have h3 : j % 3 = 0 ∨ j % 3 = 1 ∨ j % 3 = 2 := by omega
  rcases h3 with h | h | h
  · have e : j = j / 3 * 3 := by omega
    rw [e] at hu
    rw [show off + j = off + j / 3 * 3 by omega, h2.1, ← h1.1, hu]
  · have e : j = j / 3 * 3 + 1 := by omega
    rw [e] at hu
    rw [show off + j = off + j / 3 * 3 + 1 by omega, h2.2.1, ← h1.2.1, hu]
  · have e : j = j / 3 * 3 + 2 := by omega
    rw [e] at hu
    rw [show off + j = off + j / 3 * 3 + 2 by omega, h2.2.2, ← h1.2.2, hu]
/-- The cells of n values of nothing. -/
def nul3 : Nat → List Value
  | 0 => []
  | n + 1 => .int .i64 0 :: .int .i64 0 :: .string (ByteArray.mk #[]) :: nul3 n
theorem nul3_len : ∀ n, (nul3 n).length = n * 3
  | 0 => rfl
  | n + 1 => by simp [nul3, nul3_len n]; omega
theorem nul3_at : ∀ n j, j < n * 3 → (nul3 n)[j]? = some (if j % 3 = 2 then .string (ByteArray.mk #[]) else .int .i64 0)
  | 0, j, h => by omega
  | n + 1, 0, _ => rfl
  | n + 1, 1, _ => rfl
  | n + 1, 2, _ => rfl
  | n + 1, j + 3, h => by
    have := nul3_at n j (by omega)
    simp only [nul3, List.getElem?_cons_succ, this, Nat.add_mod_right]
theorem nul_made (n : Nat) : (madeCells (Value.agg #[.int .i64 0, .int .i64 0, .string ByteArray.empty]).cells (n * 3)).toList = nul3 n := by
  apply List.ext_getElem?
  intro j
  by_cases hj : j < n * 3
  · rw [nul3_at n j hj]
    have h3 : j % 3 = 0 ∨ j % 3 = 1 ∨ j % 3 = 2 := by omega
    rcases h3 with h | h | h
    · simp [madeCells, hj, Value.cells, h]
    · simp [madeCells, hj, Value.cells, h]
    · simp [madeCells, hj, Value.cells, h]; rfl
  · rw [List.getElem?_eq_none (by simp [madeCells]; omega), List.getElem?_eq_none (by rw [nul3_len]; omega)]
theorem nul3_drop : ∀ n k, (nul3 (n + k)).drop (n * 3) = nul3 k
  | 0, k => by simp
  | n + 1, k => by
    rw [show n + 1 + k = (n + k) + 1 by omega, show (n + 1) * 3 = n * 3 + 1 + 1 + 1 by omega]
    simpa [nul3] using nul3_drop n k
/-- What lies in the row of values that were handed in. -/
def hArrS (l : List Sb) : List Value := cellsS l ++ [.int .i64 77, .int .i64 0, .string (ByteArray.mk #[]), .int .i64 77, .int .i64 0, .string (ByteArray.mk #[])]
def zArrS (l : List Sb) : List Value := cellsS l ++ nul3 2
theorem zArrS_at (l : List Sb) : (zArrS l).toArray[l.length * 3]? = some (.int .i64 0) ∧ (zArrS l).toArray[(l.length + 1) * 3]? = some (.int .i64 0) := by
  simp only [List.getElem?_toArray, zArrS]
  rw [List.getElem?_append_right (by rw [cellsS_len]; omega), List.getElem?_append_right (by rw [cellsS_len]; omega), cellsS_len,
    show l.length * 3 - l.length * 3 = 0 by omega, show (l.length + 1) * 3 - l.length * 3 = 3 by omega]
  exact ⟨rfl, rfl⟩
theorem hArrS_set (l : List Sb) : ((zArrS l).toArray.setIfInBounds (l.length * 3) (.int .i64 77)).setIfInBounds ((l.length + 1) * 3) (.int .i64 77) = (hArrS l).toArray := by
  simp only [List.setIfInBounds_toArray]
  congr 1
  unfold zArrS hArrS
  rw [List.set_append_right _ _ (by rw [cellsS_len]; omega), cellsS_len, List.set_append_right _ _ (by rw [cellsS_len]; omega), cellsS_len]
  rw [show l.length * 3 - l.length * 3 = 0 by omega, show (l.length + 1) * 3 - l.length * 3 = 3 by omega]
  rfl
theorem hArrS_at (l : List Sb) (j : Nat) (hj : j < l.length) : (hArrS l).toArray[j * 3]? = some (.int .i64 (sb l j).n) ∧ (hArrS l).toArray[j * 3 + 1]? = some (.int .i64 (sb l j).c) ∧ (hArrS l).toArray[j * 3 + 2]? = some (.string (sb l j).v) := by
  simp only [List.getElem?_toArray, hArrS]
  rw [List.getElem?_append_left (by rw [cellsS_len]; omega), List.getElem?_append_left (by rw [cellsS_len]; omega), List.getElem?_append_left (by rw [cellsS_len]; omega)]
  exact cellsS_at l j hj
theorem hArrS_end (l : List Sb) : (hArrS l).toArray[l.length * 3]? = some (.int .i64 77) ∧ (hArrS l).toArray[(l.length + 1) * 3]? = some (.int .i64 77) := by
  simp only [List.getElem?_toArray, hArrS]
  rw [List.getElem?_append_right (by rw [cellsS_len]; omega), List.getElem?_append_right (by rw [cellsS_len]; omega), cellsS_len,
    show l.length * 3 - l.length * 3 = 0 by omega, show (l.length + 1) * 3 - l.length * 3 = 3 by omega]
  exact ⟨rfl, rfl⟩
/-- How values lie that were handed in. -/
def HdS (w : World) (v : Value) (l : List Sb) : Prop :=
  ∃ g, v = .slice (some ⟨g, 0, none⟩) l.length (l.length + 2) ∧ w.heap[g]? = some (.cells (hArrS l).toArray 57 (0, 0))
theorem HdS.below {w w' : World} {v : Value} {l : List Sb} (h : HdS w v l) (hb : Below w.heap.size w w') : HdS w' v l := by
  obtain ⟨g, hv, hh⟩ := h
  exact ⟨g, hv, by rw [hb.block g (Array.getElem?_eq_some_iff.1 hh).1]; exact hh⟩
theorem HdS.rd {w : World} {v : Value} {l : List Sb} (h : HdS w v l) (hl : l.length ≤ 4398046511104) : RdS w v l := by
  obtain ⟨g, hv, hh⟩ := h
  refine ⟨_, _, hv, by omega, by omega, fun _ => ⟨g, 0, rfl, fun j hj => ?_⟩⟩
  rw [Nat.zero_add, cell_of_row _ _ _ _ _ _ hh, cell_of_row _ _ _ _ _ _ hh, cell_of_row _ _ _ _ _ _ hh]
  exact hArrS_at l j hj
/-- What given hands back. -/
def GivEnd (w : World) (c : List (Int × Int)) (l : List Sb) (e : Ending) (w' : World) : Prop :=
  ∃ r1 r2, e = .returned (.agg #[r1, r2]) ∧ Hd w' r1 c ∧ HdS w' r2 l ∧ Below w.heap.size w w'
theorem results22 (tmps : Array Value) (w : World) (g : Nat) (v1 v2 : Value) (h2 : tmps.getD 2 undef = .pointer (some ⟨g, 0, none⟩)) (hg : w.heap[g]? = some (.cells #[v1, v2] 38 (0, 0))) :
    (results Try.f22 tmps).run Try.prog w = .ok (.agg #[v1, v2]) w := by
  have hl := run_loadVar_row (P := Try.prog) w g 38 38 #[v1, v2] (0, 0) _ hg Try.underlying38 rfl info38
  have h2' : tmps[2]?.getD undef = .pointer (some ⟨g, 0, none⟩) := by simpa using h2
  simp [results, Try.results22, h2', asAddr, hl]

set_option maxRecDepth 40000 in
set_option maxHeartbeats 1600000 in
theorem given_any (vc v : Value) (c : List (Int × Int)) (l : List Sb) (w : World) (hrc : Rd w vc c) (hrd : RdS w v l) (hbc : c.length ≤ 8796093022208) (hbl : l.length ≤ 4398046511104) :
    Calls Try.prog 22 #[.agg #[vc, v]] w fun e w' => GivEnd w c l e w' := by
  obtain ⟨i0, hi, hz0, hz1, hz2⟩ := info_parts Try.info57
  obtain ⟨ac, capc, rfl⟩ := hrc.shape
  obtain ⟨a, cap, rfl, _, _, hA⟩ := hrd
  go_enter Try.func22, Try.ntmps22
  go_upto_region 2 with fail
  have hbW : Below w.heap.size w ((w.alloc (.cells #[.slice ac c.length capc, .slice a l.length cap] 38)).alloc (.cells #[.slice none 0 0, .slice none 0 0] 38)) := ((Below.refl _ _).alloc (Nat.le_refl _) _).alloc (by simp) _
  obtain ⟨W, hW, hb, t0, t1, rg⟩ : ∃ W, ((w.alloc (.cells #[.slice ac c.length capc, .slice a l.length cap] 38)).alloc (.cells #[.slice none 0 0, .slice none 0 0] 38)) = W ∧ Below w.heap.size w W ∧
      W.cell? ⟨w.heap.size, 0, none⟩ = some (.slice ac c.length capc) ∧ W.cell? ⟨w.heap.size, 1, none⟩ = some (.slice a l.length cap) ∧
      W.heap[w.heap.size + 1]? = some (.cells nilSet 38 (0, 0)) :=
    ⟨_, rfl, hbW, by simp [go_sem], by simp [go_sem], heap_alloc2_new w _ _⟩
  rw [hW]
  have HRG : Hid (W.heap[w.heap.size + 1]? = some (.cells nilSet 38 (0, 0))) := rg
  have HRC : Hid (Rd W (.slice ac c.length capc) c) := hrc.below hb
  have hs0 := hb.size
  clear hW hbW rg hrc
  go_wp2_with (first
    | (at_make; refine wpList_make_full _ rfl _ _ 36 rfl W.heap.size 57 i0 (.agg #[.int .i64 0, .int .i64 0, .string ByteArray.empty]) 3 Try.underlying36 hi hz0 hz1 .i64 .i64 _ _ (l.length + 2) rfl rfl (by omega) (by omega) (by rw [hz2]; omega) (by unfold maxLen; omega) (Nat.le_refl _) ?_))
  intro w1 hown hgrow
  have hb1 : Below W.heap.size W w1 := (Below.refl _ _).grown hgrow (Nat.le_refl _) (fun k h => by cases h)
  have hrow := row_of_made hown
  have hzz : (madeCells #[Value.int .i64 0, Value.int .i64 0, Value.string ByteArray.empty] ((l.length + 2) * 3)).toList = nul3 (l.length + 2) := nul_made _
  rw [hzz] at hrow
  have hcopy : ∀ ad, a = some ad → ∀ j v, (cellsS l)[j]? = some v → w1.cell? (ad.add j) = some v := by
    intro ad had j v hv
    have hl0 : 0 < l.length := by
      have := (List.getElem?_eq_some_iff.1 hv).1
      rw [cellsS_len] at this; omega
    obtain ⟨b, off, h1, hr⟩ := hA hl0
    rw [h1] at had
    obtain rfl := Option.some.inj had
    exact cells_ofS (fun j hj => ⟨cell_later hb1 (cell_later hb (hr j hj).1), cell_later hb1 (cell_later hb (hr j hj).2.1), cell_later hb1 (cell_later hb (hr j hj).2.2)⟩) j v hv
  have hnone : a = none → l.length = 0 := by
    intro h
    by_cases h0 : 0 < l.length
    · obtain ⟨b, off, h1, _⟩ := hA h0
      rw [h] at h1; cases h1
    · omega
  have hfin : cellsS l ++ (nul3 (l.length + 2)).drop (cellsS l).length = zArrS l := by
    unfold zArrS
    rw [cellsS_len, nul3_drop]
  have hfit : (cellsS l).length ≤ (nul3 (l.length + 2)).toArray.size := by
    rw [cellsS_len, List.size_toArray, nul3_len]; omega
  have HC : Hid (∀ ad, a = some ad → ∀ j v, (cellsS l)[j]? = some v → w1.cell? (ad.add j) = some v) := hcopy
  have HF : Hid (cellsS l ++ (nul3 (l.length + 2)).drop (cellsS l).length = zArrS l) := hfin
  have HNone : Hid (a = none → l.length = 0) := hnone
  have HR : Hid (w1.heap[W.heap.size]? = some (.cells (nul3 (l.length + 2)).toArray 57 (0, 0))) := hrow
  have HT : Hid (W.cell? ⟨w.heap.size, 0, none⟩ = some (.slice ac c.length capc)) := t0
  have u1 := cell_later hb1 t1
  clear hA hcopy hnone hrow hzz hown hfin hz0 hz1 hz2 hi hgrow t0 t1
  go_upto_region 4 with (first
    | (refine wpList_copy_sz rfl _ _ 36 36 rfl 57 3 Try.underlying36 size57 W.heap.size (l.length + 2) (l.length + 2) a l.length cap rfl rfl _ 57 HR.out (by omega) (cellsS l) (cellsS_len l) HNone.out HC.out hfit (one_cellsS l) W.heap.size W hb1 (Nat.le_refl _) ?_; intro w2 hrow hb2 hsz))
  rw [HF.out] at hrow
  have HR2 : Hid (w2.heap[W.heap.size]? = some (.cells (zArrS l).toArray 57 (0, 0))) := hrow
  have q1 : w2.cell? ⟨W.heap.size, l.length * 3, none⟩ = some (.int .i64 0) := by rw [cell_of_row _ _ _ _ _ _ hrow]; exact (zArrS_at l).1
  have q2 : w2.cell? ⟨W.heap.size, (l.length + 1) * 3, none⟩ = some (.int .i64 0) := by rw [cell_of_row _ _ _ _ _ _ hrow]; exact (zArrS_at l).2
  have f1 : w2.frozen? ⟨W.heap.size, l.length * 3, none⟩ = false := frozen_of_row _ _ _ _ _ hrow
  have f2 : w2.frozen? ⟨W.heap.size, (l.length + 1) * 3, none⟩ = false := frozen_of_row _ _ _ _ _ hrow
  clear hrow hsz HF HR HC HNone hfit hb1 u1
  go_upto_region 6 with fail
  obtain ⟨W3, hW3, hrow, hb3⟩ : ∃ W3, ((w2.setCell ⟨W.heap.size, l.length * 3, none⟩ (.int .i64 77)).setCell ⟨W.heap.size, (l.length + 1) * 3, none⟩ (.int .i64 77)) = W3 ∧ W3.heap[W.heap.size]? = some (.cells (hArrS l).toArray 57 (0, 0)) ∧ Below W.heap.size W W3 := by
    refine ⟨_, rfl, ?_, (hb2.setCell (Nat.le_refl _) _).setCell (Nat.le_refl _) _⟩
    rw [heap_setCell_same _ _ _ _ _ _ (heap_setCell_same _ _ _ _ _ _ HR2.out), hArrS_set]
  rw [hW3]
  have t0 := cell_later hb3 HT.out
  have hs3 := hb3.size
  have HG : Hid (W3.heap[w.heap.size + 1]? = some (.cells nilSet 38 (0, 0))) := heap_later hb3 HRG.out
  have hl3 : w.heap.size + 1 < W3.heap.size := (Array.getElem?_eq_some_iff.1 HG.out).1
  have hbw := hb.trans (hb3.mono hs0)
  have HH : Hid (∀ w', Below W3.heap.size W3 w' → Calls Try.prog 8 #[.slice ac c.length capc] w' fun e w'' => ∃ g, e = .returned (.slice (some ⟨g, 0, none⟩) c.length (c.length + 2)) ∧ w'.heap.size ≤ g ∧ w''.heap[g]? = some (.cells (hArr c).toArray 52 (0, 0)) ∧ Below w'.heap.size w' w'') :=
    fun w' hb' => handed_any _ c w' ((HRC.out.below hb3).below hb') hbc
  clear hW3 q1 q2 f1 f2 HR2 hb2
  go_region_with (go_at_call 8; refine (HH.out _ (by repeat (first | exact Below.refl _ _ | refine Below.drew ?_ | refine below_drewN ?_ _))).mono ?_; rintro e w4 ⟨g4, rfl, hg4, hr4, hb4⟩; have hb5 : Below W3.heap.size W3 w4 := (by repeat (first | exact hb4 | exact Below.refl _ _ | refine Below.trans ?_ hb4 | refine Below.drew ?_ | refine below_drewN ?_ _)); have hro := heap_later hb5 HG.out; have HRO : Hid (w4.heap[w.heap.size + 1]? = some (.cells nilSet 38 (0, 0))) := hro; have s0 : w4.cell? ⟨w.heap.size + 1, 0, none⟩ = some (.slice none 0 0) := (by rw [cell_of_row _ _ _ _ _ _ hro]; rfl); have s1 : w4.cell? ⟨w.heap.size + 1, 1, none⟩ = some (.slice none 0 0) := (by rw [cell_of_row _ _ _ _ _ _ hro]; rfl); have z0 : w4.frozen? ⟨w.heap.size + 1, 0, none⟩ = false := frozen_of_row _ _ _ _ _ hro; have z1 : w4.frozen? ⟨w.heap.size + 1, 1, none⟩ = false := frozen_of_row _ _ _ _ _ hro; clear hro)
  all_goals
    go_wp2_with fail
    have hne : g4 ≠ w.heap.size + 1 := fun e => by rw [e, HRO.out] at hr4; simp at hr4
    have hne2 : W.heap.size ≠ w.heap.size + 1 := fun e => by rw [e, HG.out] at hrow; simp at hrow
    have hrow4 := heap_later hb5 hrow
    have hfin := (hbw.trans (hb5.mono (Nat.le_trans hs0 hs3)))
    refine bodyPost_ret (results22 _ _ (w.heap.size + 1) (.slice (some ⟨g4, 0, none⟩) c.length (c.length + 2)) (.slice (some ⟨W.heap.size, 0, none⟩) l.length (l.length + 2)) rfl ?_) rfl ⟨_, _, rfl, ⟨g4, rfl, ?_⟩, ⟨W.heap.size, rfl, ?_⟩, (hfin.setCell (by simp) _).setCell (by simp) _⟩
    · rw [heap_setCell_same _ _ _ _ _ _ (heap_setCell_same _ _ _ _ _ _ HRO.out)]
      rfl
    · rw [heap_setCell_other _ _ _ _ (by exact hne), heap_setCell_other _ _ _ _ (by exact hne)]
      exact hr4
    · rw [heap_setCell_other _ _ _ _ (by exact hne2), heap_setCell_other _ _ _ _ (by exact hne2)]
      exact hrow4

set_option maxRecDepth 40000 in
set_option maxHeartbeats 1600000 in
theorem whole_any (v1 v2 u1 u2 : Value) (c : List (Int × Int)) (l : List Sb) (w : World) (h1 : Hd w v1 c) (h2 : HdS w v2 l) (h3 : Rd w u1 c) (h4 : RdS w u2 l) (hbc : c.length ≤ 8796093022208) (hbl : l.length ≤ 4398046511104) :
    Calls Try.prog 29 #[.agg #[v1, v2], .agg #[u1, u2]] w fun e w' => e = .returned (.bool true) ∧ Below w.heap.size w w' := by
  have hrd2 := h2.rd hbl
  obtain ⟨g1, rfl, hh1⟩ := h1
  obtain ⟨g2, rfl, hh2⟩ := h2
  obtain ⟨p3, q3, rfl⟩ := h3.shape
  obtain ⟨p4, q4, rfl⟩ := h4.shape
  have hl0 : (l.length : Int) ≤ 4398046511104 := by omega
  go_enter Try.func29, Try.ntmps29
  go_upto_region 1 with fail
  obtain ⟨W, hW, hb, t0, t1, s0, s1⟩ : ∃ W, ((w.alloc (.cells #[.slice (some ⟨g1, 0, none⟩) c.length (c.length + 2), .slice (some ⟨g2, 0, none⟩) l.length (l.length + 2)] 38)).alloc (.cells #[.slice p3 c.length q3, .slice p4 l.length q4] 38)) = W ∧ Below w.heap.size w W ∧
      W.cell? ⟨w.heap.size, 0, none⟩ = some (.slice (some ⟨g1, 0, none⟩) c.length (c.length + 2)) ∧ W.cell? ⟨w.heap.size, 1, none⟩ = some (.slice (some ⟨g2, 0, none⟩) l.length (l.length + 2)) ∧
      W.cell? ⟨w.heap.size + 1, 0, none⟩ = some (.slice p3 c.length q3) ∧ W.cell? ⟨w.heap.size + 1, 1, none⟩ = some (.slice p4 l.length q4) :=
    ⟨_, rfl, ((Below.refl _ _).alloc (Nat.le_refl _) _).alloc (by simp) _, by simp [go_sem], by simp [go_sem], by simp [go_sem], by simp [go_sem]⟩
  rw [hW]
  have HT : Hid (W.cell? ⟨w.heap.size, 0, none⟩ = some (.slice (some ⟨g1, 0, none⟩) c.length (c.length + 2)) ∧ W.cell? ⟨w.heap.size + 1, 0, none⟩ = some (.slice p3 c.length q3)) := ⟨t0, s0⟩
  have HS : Hid (∀ w', Below W.heap.size W w' → Calls Try.prog 50 #[.slice (some ⟨g2, 0, none⟩) l.length (l.length + 2), .slice p4 l.length q4] w' fun e w'' => e = .returned (.bool true) ∧ Below w'.heap.size w' w'') :=
    fun w' hb' => (sameList_any _ _ l l w' ((hrd2.below hb).below hb') ((h4.below hb).below hb')).mono fun e w'' ⟨r, he, hr, hb''⟩ => ⟨by rw [he, hr.2 rfl], hb''⟩
  have hs0 := hb.size
  clear hW t0 s0
  go_upto_region 3 with fail
  go_region_with (go_at_call 50; refine (HS.out _ (by repeat (first | exact Below.refl _ _ | refine Below.drew ?_ | refine below_drewN ?_ _))).mono ?_; rintro e w4 ⟨rfl, hb4⟩; have hb5 : Below W.heap.size W w4 := (by repeat (first | exact hb4 | exact Below.refl _ _ | refine Below.trans ?_ hb4 | refine Below.drew ?_ | refine below_drewN ?_ _)))
  all_goals
    have r0 := cell_later hb5 HT.out.1
    have r1 := cell_later hb5 HT.out.2
    have hb6 := hb.trans (hb5.mono hs0)
    have hs6 := hb6.size
    have hh1' := heap_later hb6 hh1
    have hh2' := heap_later hb6 hh2
    have HH2 : Hid (w4.heap[g2]? = some (.cells (hArrS l).toArray 57 (0, 0))) := hh2'
    have HI : Hid (Calls Try.prog 20 #[.slice (some ⟨g1, 0, none⟩) c.length (c.length + 2), .slice p3 c.length q3] w4 fun e w' => e = .returned (.bool true) ∧ Below w4.heap.size w4 w') := intact_any _ _ c w4 ⟨g1, rfl, hh1'⟩ (h3.below hb6) hbc
    clear hh1' hh2'
    go_wp2_with fail
    refine HI.out.mono ?_
    rintro e w5 ⟨rfl, hb7⟩
    have hh5 := heap_later hb7 HH2.out
    have q1 : w5.cell? ⟨g2, l.length * 3, none⟩ = some (.int .i64 77) := by rw [cell_of_row _ _ _ _ _ _ hh5]; exact (hArrS_end l).1
    have q2 : w5.cell? ⟨g2, (l.length + 1) * 3, none⟩ = some (.int .i64 77) := by rw [cell_of_row _ _ _ _ _ _ hh5]; exact (hArrS_end l).2
    have hb8 := hb6.trans (hb7.mono hs6)
    clear hh5 r0 r1 hb7
    go_wp2
    go_ret
    exact ⟨rfl, hb8⟩
end Go.Proofs.Ytkiipmdplpcfeaa
