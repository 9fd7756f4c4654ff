/- The statements' small functions: Options; trouble. -/
import Derived.Test.YtilkdeghknjjhaaGreatDoorPart27
import Derived.Test.YtilkdeghknjjhaaGreatDoorPart22
namespace Go.Proofs.YtilkdeghknjjhaaGreatDoor
open Go.RowKit M
set_option linter.unusedVariables false

/-- May options be? -/
def OptOK (n e r : Int) : Prop := 0 ≤ n ∧ n ≤ 15 ∧ 0 ≤ e ∧ e ≤ 100 ∧ 400 ≤ r ∧ r ≤ 100000
set_option maxRecDepth 20000 in
set_option maxHeartbeats 1600000 in
theorem refOptions_any (n e r : Int) (w : World) :
    Calls Tryz.prog 58 #[.agg #[.int .i64 n, .int .i64 e, .int .i64 r]] w fun en w' => BoolIs (OptOK n e r) w en w' := by
  by_cases h1 : 0 ≤ n
  rotate_left
  · have HN : Hid (¬ OptOK n e r) := fun h => h1 h.1
    go_enter Tryz.func58, Tryz.ntmps58
    go_wp2
    go_ret
    exact ⟨false, rfl, by simp; exact HN.out, (Below.refl _ _).alloc (Nat.le_refl _) _⟩
  by_cases h2 : n ≤ 15
  rotate_left
  · have HN : Hid (¬ OptOK n e r) := fun h => h2 h.2.1
    go_enter Tryz.func58, Tryz.ntmps58
    go_wp2
    go_ret
    exact ⟨false, rfl, by simp; exact HN.out, (Below.refl _ _).alloc (Nat.le_refl _) _⟩
  by_cases h3 : 0 ≤ e
  rotate_left
  · have HN : Hid (¬ OptOK n e r) := fun h => h3 h.2.2.1
    go_enter Tryz.func58, Tryz.ntmps58
    go_wp2
    go_ret
    exact ⟨false, rfl, by simp; exact HN.out, (Below.refl _ _).alloc (Nat.le_refl _) _⟩
  by_cases h4 : e ≤ 100
  rotate_left
  · have HN : Hid (¬ OptOK n e r) := fun h => h4 h.2.2.2.1
    go_enter Tryz.func58, Tryz.ntmps58
    go_wp2
    go_ret
    exact ⟨false, rfl, by simp; exact HN.out, (Below.refl _ _).alloc (Nat.le_refl _) _⟩
  by_cases h5 : 400 ≤ r
  rotate_left
  · have HN : Hid (¬ OptOK n e r) := fun h => h5 h.2.2.2.2.1
    go_enter Tryz.func58, Tryz.ntmps58
    go_wp2
    go_ret
    exact ⟨false, rfl, by simp; exact HN.out, (Below.refl _ _).alloc (Nat.le_refl _) _⟩
  by_cases h6 : r ≤ 100000
  rotate_left
  · have HN : Hid (¬ OptOK n e r) := fun h => h6 h.2.2.2.2.2
    go_enter Tryz.func58, Tryz.ntmps58
    go_wp2
    go_ret
    exact ⟨false, rfl, by simp; exact HN.out, (Below.refl _ _).alloc (Nat.le_refl _) _⟩
  have HY : Hid (OptOK n e r) := ⟨h1, h2, h3, h4, h5, h6⟩
  go_enter Tryz.func58, Tryz.ntmps58
  go_wp2
  go_ret
  exact ⟨true, rfl, by simp; exact HY.out, (Below.refl _ _).alloc (Nat.le_refl _) _⟩

/-- May a call have answered that the disk has failed? -/
theorem trouble_any (Z : Nat → Prop) (b p : Nat) (D : Dk) (f : Int) (w : World) (hd : w.cell? ⟨b, 0, none⟩ = some (.pointer (some ⟨p, 0, none⟩))) (h : DiskAt Z w p D) :
    Calls Tryz.prog 104 #[.pointer (some ⟨b, 0, none⟩), .int .i64 f] w fun e w' => BoolIs (f < D.failed ∨ D.life = 0) w e w' := by
  have HF : Hid (Calls Tryz.prog 103 #[.pointer (some ⟨p, 0, none⟩)] w fun e w' => e = .returned (.int .i64 D.failed) ∧ w' = w) := Failed_any Z p D w h
  have HD : Hid (Calls Tryz.prog 54 #[.pointer (some ⟨p, 0, none⟩)] w fun e w' => e = .returned (.bool (D.life == 0)) ∧ w' = w) := Dead_any Z p D w h
  clear h
  by_cases h1 : f < D.failed
  · go_enter Tryz.func104, Tryz.ntmps104
    go_wp2_with (first
      | (go_at_call 103; refine HF.out.mono ?_; rintro e w' ⟨rfl, rfl⟩)
      | (go_at_call 54; refine HD.out.mono ?_; rintro e w' ⟨rfl, rfl⟩))
    go_ret
    exact ⟨true, rfl, by simp [h1], Below.refl _ _⟩
  by_cases h2 : D.life = 0
  · have h2' : (D.life == 0) = true := by simp [h2]
    have HL : Hid (D.life = 0) := h2
    rw [h2'] at HD
    clear h2
    go_enter Tryz.func104, Tryz.ntmps104
    go_wp2_with (first
      | (go_at_call 103; refine HF.out.mono ?_; rintro e w' ⟨rfl, rfl⟩)
      | (go_at_call 54; refine HD.out.mono ?_; rintro e w' ⟨rfl, rfl⟩))
    go_ret
    exact ⟨true, rfl, by simp; exact .inr HL.out, Below.refl _ _⟩
  · have h2' : (D.life == 0) = false := by simp [h2]
    have HL : Hid (D.life ≠ 0) := h2
    rw [h2'] at HD
    clear h2
    go_enter Tryz.func104, Tryz.ntmps104
    go_wp2_with (first
      | (go_at_call 103; refine HF.out.mono ?_; rintro e w' ⟨rfl, rfl⟩)
      | (go_at_call 54; refine HD.out.mono ?_; rintro e w' ⟨rfl, rfl⟩))
    go_ret
    exact ⟨_, rfl, by simp; exact fun h => absurd h HL.out, Below.refl _ _⟩
end Go.Proofs.YtilkdeghknjjhaaGreatDoor
