/- What it is for a slice to read as a list of entries, and the contract of isClock. -/
import Derived.Test.YtkiipmdplpcfeaaA
import Derived.WalkKit
import Derived.WalkSpells
import Derived.WalkLawsBesides
import Derived.Deep.QuietTactic
import Derived.BigQuiet
namespace Go.Proofs.Ytkiipmdplpcfeaa
open Go.RowKit M
set_option linter.unusedVariables false


/-- A slice of entries that reads as a list of pairs. -/
def Rd (w : World) (v : Value) (l : List (Int × Int)) : Prop :=
  ∃ a cap, v = .slice a l.length cap ∧ l.length ≤ cap ∧ cap ≤ 9223372036854775807 ∧
    (0 < l.length → ∃ b off, a = some ⟨b, off, none⟩ ∧ ∀ j, j < l.length → w.cell? ⟨b, off + j * 2, none⟩ = some (.int .i64 (ent l j).1) ∧ w.cell? ⟨b, off + j * 2 + 1, none⟩ = some (.int .i64 (ent l j).2))

theorem Rd.nil (w : World) : Rd w (.slice none 0 0) [] := ⟨none, 0, rfl, Nat.le_refl _, by omega, fun h => absurd h (by simp)⟩

theorem Rd.below {w w' : World} {v : Value} {l : List (Int × Int)} (h : Rd w v l) (hb : Below w.heap.size w w') : Rd w' v l := by
  obtain ⟨a, cap, hv, h1, h2, h3⟩ := h
  refine ⟨a, cap, hv, h1, h2, fun h0 => ?_⟩
  obtain ⟨b, off, ha, hc⟩ := h3 h0
  exact ⟨b, off, ha, fun j hj => ⟨cell_later hb (hc j hj).1, cell_later hb (hc j hj).2⟩⟩

/-- The cells of a list of entries. -/
def cellsE : List (Int × Int) → List Value
  | [] => []
  | e :: r => .int .i64 e.1 :: .int .i64 e.2 :: cellsE r
theorem cellsE_len : ∀ l, (cellsE l).length = l.length * 2
  | [] => rfl
  | e :: r => by simp [cellsE, cellsE_len r]; omega
theorem cellsE_at : ∀ (l : List (Int × Int)) (j : Nat), j < l.length → (cellsE l)[j * 2]? = some (.int .i64 (ent l j).1) ∧ (cellsE l)[j * 2 + 1]? = some (.int .i64 (ent l j).2)
  | [], j, h => absurd h (by simp)
  | e :: r, 0, _ => by simp [cellsE, ent]
  | e :: r, j + 1, h => by
    have := cellsE_at r j (by simpa using h)
    rw [show (j + 1) * 2 = j * 2 + 1 + 1 by omega]
    simpa [cellsE, ent] using this
theorem cellsE_snoc : ∀ (l : List (Int × Int)) (e : Int × Int), cellsE (l ++ [e]) = cellsE l ++ [.int .i64 e.1, .int .i64 e.2]
  | [], e => rfl
  | x :: r, e => by simp [cellsE, cellsE_snoc r e]

theorem Rd.own {w : World} {B n : Nat} {v : Value} {l : List (Int × Int)} (h : w.ownsRow B 52 2 v n (cellsE l)) (hn : n = l.length) : Rd w v l := by
  subst hn
  obtain ⟨h1, h2⟩ := h
  rcases h2 with ⟨hv, h0⟩ | ⟨g, cap, cur, hv, hg, hh, hle, hm, hsz, htk⟩
  · have : l = [] := List.eq_nil_of_length_eq_zero h0
    subst this; subst hv; exact Rd.nil w
  · refine ⟨_, cap, hv, hle, by simp only [maxLen] at hm; omega, fun h0 => ⟨g, 0, rfl, fun j hj => ?_⟩⟩
    have hc : ∀ k, k < l.length * 2 → w.cell? ⟨g, 0 + k, none⟩ = (cellsE l)[k]? := by
      intro k hk
      rw [cell_of_row w g (0 + k) cur 52 (0, 0) hh, ← htk, List.getElem?_take, if_pos hk]
      simp
    have := cellsE_at l j hj
    exact ⟨(hc _ (by omega)).trans this.1, by rw [Nat.add_assoc]; exact (hc _ (by omega)).trans this.2⟩

set_option maxHeartbeats 400000 in
theorem isClock_any (v : Value) (l : List (Int × Int)) (w : World) (hrd : Rd w v l) :
    Calls Try.prog 35 #[v] w fun e w' => ∃ r, e = .returned (.bool r) ∧ (r = true ↔ Clk l) ∧ Below w.heap.size w w' := by
  obtain ⟨a, cap, rfl, hlc, hc, hA⟩ := hrd
  by_cases h8 : 8 < l.length
  · go_enter Try.func35, Try.ntmps35
    go_wp2
    go_ret
    exact ⟨false, rfl, by simp [Clk]; omega, Below.refl _ _⟩
  · go_enter Try.func35, Try.ntmps35
    go_wp2
    go_loopw [3, 4, 10] (fun _ _ i wr => ∃ k : Nat, k ≤ l.length ∧ i = .int .i64 k ∧ Up l k ∧ Below w.heap.size w wr)
      (fun _ _ i _ => l.length - (intOf i).toNat)
    case atStart => exact ⟨0, Nat.zero_le _, rfl, Up.zero l, Below.refl _ _⟩
    case round =>
      obtain ⟨k, hk, rfl, hu, hw⟩ := hrel
      have hsz := hw.size
      by_cases hlt : k < l.length
      · obtain ⟨b, off, rfl, hr⟩ := hA (by omega)
        have hb : b < w.heap.size := World.block_lt_of_cell? w ⟨b, off + k * 2, none⟩ (hr k hlt).1
        clear hA
        have c1 : wr.cell? ⟨b, off + k * 2, none⟩ = some (.int .i64 (ent l k).1) := (hw.cell (p := ⟨b, off + k * 2, none⟩) hb).trans (hr k hlt).1
        have c2 : wr.cell? ⟨b, off + k * 2 + 1, none⟩ = some (.int .i64 (ent l k).2) := (hw.cell (p := ⟨b, off + k * 2 + 1, none⟩) hb).trans (hr k hlt).2
        by_cases hd : dotB (ent l k).1 (ent l k).2 = true
        · have hdd := (dotB_iff _ _).1 hd
          by_cases h0 : 0 < k
          · have k1 : (0 : Int) < (k : Int) := by omega
            have k2 : (0 : Int) ≤ (k : Int) - 1 := by omega
            have k3 : (k : Int) - 1 < (l.length : Int) := by omega
            have e1 : ((k : Int) - 1).toNat = k - 1 := by omega
            have c3 : ∀ o, (wr.alloc o).cell? ⟨b, off + (k - 1) * 2, none⟩ = some (.int .i64 (ent l (k - 1)).1) := fun o => ((hw.alloc hsz o).cell (p := ⟨b, off + (k - 1) * 2, none⟩) hb).trans (hr (k - 1) (by omega)).1
            by_cases hle : (ent l k).1 ≤ (ent l (k - 1)).1
            · go_wp2_with fail
              go_quiet ((go_at_call 40; exact Calls.quiet_of_same (isDot_any _ _ _)))
              go_wp2
              go_ret
              exact ⟨false, rfl, by simp; intro hc; have := (hc.2 k (by omega)).2 (by omega); omega, (by repeat (first | exact hw | refine below_drewN ?_ _ | refine Below.drew ?_ | refine Below.setCell ?_ (by first | omega | (simp; omega)) _ | refine Below.alloc ?_ (by first | omega | (simp; omega)) _))⟩
            · go_wp2_with fail
              go_quiet ((go_at_call 40; exact Calls.quiet_of_same (isDot_any _ _ _)))
              go_wp2
              go_roundw
              case rel => exact ⟨k + 1, by omega, by go_num, hu.succ hdd (fun h => by omega), (by repeat (first | exact hw | refine below_drewN ?_ _ | refine Below.drew ?_ | refine Below.setCell ?_ (by first | omega | (simp; omega)) _ | refine Below.alloc ?_ (by first | omega | (simp; omega)) _))⟩
              case measure => simp [intOf]; omega
          · have g0 : decide ((0 : Int) < (k : Int)) = false := by simp; omega
            go_wp2_with fail
            go_quiet ((go_at_call 40; exact Calls.quiet_of_same (isDot_any _ _ _)))
            go_wp2
            go_roundw
            case rel => exact ⟨k + 1, by omega, by go_num, hu.succ hdd (fun h => absurd h h0), (by repeat (first | exact hw | refine below_drewN ?_ _ | refine Below.drew ?_ | refine Below.setCell ?_ (by first | omega | (simp; omega)) _ | refine Below.alloc ?_ (by first | omega | (simp; omega)) _))⟩
            case measure => simp [intOf]; omega
        · have hd' : dotB (ent l k).1 (ent l k).2 = false := by simpa using hd
          have hnd : ¬ Dot (ent l k).1 (ent l k).2 := fun h => hd ((dotB_iff _ _).2 h)
          go_wp2_with fail
          go_quiet ((go_at_call 40; exact Calls.quiet_of_same (isDot_any _ _ _)))
          go_wp2
          go_ret
          exact ⟨false, rfl, by simp; intro hc; exact hnd (hc.2 k (by omega)).1, (by repeat (first | exact hw | refine below_drewN ?_ _ | refine Below.drew ?_ | refine Below.setCell ?_ (by first | omega | (simp; omega)) _ | refine Below.alloc ?_ (by first | omega | (simp; omega)) _))⟩
      · go_wp2
        go_ret
        exact ⟨true, rfl, by simp; exact ⟨by omega, (show k = l.length by omega) ▸ hu⟩, hw⟩

end Go.Proofs.Ytkiipmdplpcfeaa
