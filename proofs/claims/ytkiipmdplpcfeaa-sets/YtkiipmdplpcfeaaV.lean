/- The contracts of compareDots and what it calls. -/
import Derived.Test.YtkiipmdplpcfeaaQ
import Derived.WalkKit
import Derived.WalkSpells
import Derived.WalkLawsBesides
import Derived.Deep.QuietTactic
import Derived.BigQuiet
import Derived.BigRegion
import Derived.Deep.RegionHeld3
namespace Go.Proofs.Ytkiipmdplpcfeaa
open Go.RowKit M
set_option linter.unusedVariables false

/-- How two numbers lie to one another. -/
def cmpI (a b : Int) : Int := if a < b then -1 else if b < a then 1 else 0
def orI (x y : Int) : Int := if x = 0 then y else x
def cmpD (a b : Int) (c d : Int) : Int := orI (cmpI a c) (cmpI b d)

set_option maxHeartbeats 400000 in
theorem isNaN_any (a : Int) (w : World) : Calls Try.prog 58 #[.int .i64 a] w fun e w' => e = .returned (.bool false) ∧ w' = w := by
  go_enter Try.func58, Try.ntmps58
  go_wp2
  go_ret
  exact ⟨rfl, rfl⟩

set_option maxHeartbeats 400000 in
theorem Compare_any (a b : Int) (w : World) : Calls Try.prog 55 #[.int .i64 a, .int .i64 b] w fun e w' => e = .returned (.int .i64 (cmpI a b)) ∧ w' = w := by
  by_cases h1 : a < b
  · have e : cmpI a b = -1 := by simp [cmpI, h1]
    rw [e]; clear e
    go_enter Try.func55, Try.ntmps55
    go_wp2_with fail
    refine (isNaN_any a w).mono ?_
    rintro e w1 ⟨rfl, rfl⟩
    go_wp2_with fail
    refine (isNaN_any b _).mono ?_
    rintro e w1 ⟨rfl, rfl⟩
    go_wp2
    go_ret
    exact ⟨rfl, rfl⟩
  · by_cases h2 : b < a
    · have e : cmpI a b = 1 := by simp [cmpI, h1, h2]
      rw [e]; clear e
      go_enter Try.func55, Try.ntmps55
      go_wp2_with fail
      refine (isNaN_any a w).mono ?_
      rintro e w1 ⟨rfl, rfl⟩
      go_wp2_with fail
      refine (isNaN_any b _).mono ?_
      rintro e w1 ⟨rfl, rfl⟩
      go_wp2
      go_ret
      exact ⟨rfl, rfl⟩
    · have e : cmpI a b = 0 := by simp [cmpI, h1, h2]
      rw [e]; clear e
      go_enter Try.func55, Try.ntmps55
      go_wp2_with fail
      refine (isNaN_any a w).mono ?_
      rintro e w1 ⟨rfl, rfl⟩
      go_wp2_with fail
      refine (isNaN_any b _).mono ?_
      rintro e w1 ⟨rfl, rfl⟩
      go_wp2
      go_ret
      exact ⟨rfl, rfl⟩

set_option maxHeartbeats 400000 in
theorem Or_any (x y : Int) (b : Nat) (c : Nat) (w : World) (h0 : w.cell? ⟨b, 0, none⟩ = some (.int .i64 x)) (h1 : w.cell? ⟨b, 1, none⟩ = some (.int .i64 y)) :
    Calls Try.prog 54 #[.slice (some ⟨b, 0, none⟩) 2 c] w fun e w' => e = .returned (.int .i64 (orI x y)) ∧ w' = w := by
  go_enter Try.func54, Try.ntmps54
  go_wp2
  go_loop [5, 8] (fun _ i => ∃ k : Nat, k ≤ 2 ∧ i = .int .i64 k ∧ Hid ((0 < k → x = 0) ∧ (1 < k → y = 0))) (fun _ i => 2 - (intOf i).toNat)
  case atStart => exact ⟨0, by omega, rfl, ⟨fun h => by omega, fun h => by omega⟩⟩
  case round =>
    obtain ⟨k, hk, rfl, hz⟩ := hrel
    by_cases h20 : k = 0
    · subst h20
      clear hz hk
      by_cases hx : x = 0
      · have t : (x != 0) = false := by simp [hx]
        have HX : Hid (x = 0) := hx
        clear hx
        go_wp2
        go_round
        case rel => exact ⟨1, by omega, rfl, ⟨fun _ => HX.out, fun h => by omega⟩⟩
        case measure => simp [intOf]
      · have t : (x != 0) = true := by simp [hx]
        have HX : Hid (¬ x = 0) := hx
        clear hx
        go_wp2
        go_ret
        exact ⟨by unfold orI; rw [if_neg HX.out]; rfl, rfl⟩
    · by_cases h21 : k = 1
      · subst h21
        have hx := hz.out.1 (by omega)
        have HX : Hid (x = 0) := hx
        clear hz hk hx
        by_cases hy : y = 0
        · have t : (y != 0) = false := by simp [hy]
          have HY : Hid (y = 0) := hy
          clear hy
          go_wp2
          go_round
          case rel => exact ⟨2, by omega, rfl, ⟨fun _ => HX.out, fun _ => HY.out⟩⟩
          case measure => simp [intOf]
        · have t : (y != 0) = true := by simp [hy]
          clear hy
          go_wp2
          go_ret
          exact ⟨by unfold orI; rw [if_pos HX.out]; rfl, rfl⟩
      · have h22 : k = 2 := by omega
        subst h22
        have HX : Hid (x = 0) := hz.out.1 (by omega)
        have HY : Hid (y = 0) := hz.out.2 (by omega)
        clear hz
        go_wp2
        go_ret
        exact ⟨by unfold orI; rw [if_pos HX.out, HY.out]; rfl, rfl⟩

set_option maxRecDepth 40000 in
set_option maxHeartbeats 1600000 in
theorem compareDots_any (a b : Int) (s : ByteArray) (c d : Int) (t : ByteArray) (w : World) :
    Calls Try.prog 51 #[.agg #[.int .i64 a, .int .i64 b, .string s], .agg #[.int .i64 c, .int .i64 d, .string t]] w fun e w' => e = .returned (.int .i64 (cmpD a b c d)) ∧ Below w.heap.size w w' := by
  go_enter Try.func51, Try.ntmps51
  go_wp2_with fail
  obtain ⟨W, hW, hb, c0, c1, d0, d1⟩ : ∃ W, ((w.alloc (.cells #[.int .i64 a, .int .i64 b, .string s] 57)).alloc (.cells #[.int .i64 c, .int .i64 d, .string t] 57)) = W ∧ Below w.heap.size w W ∧
      W.cell? ⟨w.heap.size, 0, none⟩ = some (.int .i64 a) ∧ W.cell? ⟨w.heap.size, 1, none⟩ = some (.int .i64 b) ∧ W.cell? ⟨w.heap.size + 1, 0, none⟩ = some (.int .i64 c) ∧ W.cell? ⟨w.heap.size + 1, 1, none⟩ = some (.int .i64 d) :=
    ⟨_, rfl, ((Below.refl _ _).alloc (Nat.le_refl _) _).alloc (by simp) _, by simp [go_sem], by simp [go_sem], by simp [go_sem], by simp [go_sem]⟩
  rw [hW]
  clear hW
  have HB : Hid (Below w.heap.size w W) := hb
  have hsz := hb.size
  clear hb
  obtain ⟨B, hB⟩ : ∃ B, w.heap.size = B := ⟨_, rfl⟩
  rw [hB] at c0 c1 d0 d1
  rw [hB]
  clear hB hsz
  go_region_held3 (fun w' => w'.cell? ⟨B, 0, none⟩ = some (.int .i64 a) ∧ w'.cell? ⟨B, 1, none⟩ = some (.int .i64 b) ∧ w'.cell? ⟨B + 1, 0, none⟩ = some (.int .i64 c) ∧ w'.cell? ⟨B + 1, 1, none⟩ = some (.int .i64 d)) (go_keep)
    (first
    | (go_at_call_of 55 (Value.int IntKind.i64 a); refine (Compare_any a c _).mono ?_; rintro e w1 ⟨rfl, rfl⟩)
    | (go_at_call_of 55 (Value.int IntKind.i64 b); refine (Compare_any b d _).mono ?_; rintro e w1 ⟨rfl, rfl⟩)
    | (go_at_call 54; refine (Or_any (cmpI a c) (cmpI b d) _ _ _ ?_ ?_).mono ?_; (simp [go_sem]); (simp [go_sem]); rintro e w1 ⟨rfl, rfl⟩))
  all_goals
    go_wp2
    go_ret
    have hb := HB.out
    exact ⟨rfl, by repeat (first | exact hb | refine below_drewN ?_ _ | refine Below.drew ?_ | refine Below.alloc ?_ (by have := hb.size; first | omega | (simp; omega)) _)⟩
end Go.Proofs.Ytkiipmdplpcfeaa
