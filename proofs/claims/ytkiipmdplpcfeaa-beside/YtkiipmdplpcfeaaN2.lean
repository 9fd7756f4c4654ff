/- pick of more than N's. -/
import Derived.Test.YtkiipmdplpcfeaaN
import Derived.WalkKit
import Derived.WalkSpells
import Derived.WalkLawsBesides
namespace Go.Proofs.Ytkiipmdplpcfeaa
open Go.RowKit M
set_option linter.unusedVariables false
set_option maxRecDepth 20000 in
set_option maxHeartbeats 400000 in
theorem pick_wide (c n : Int) (w : World) (h0 : -9223372036854775808 ≤ c) (h1 : c ≤ 9223372036854775807) (hn : 1 ≤ n) (hn2 : n ≤ 17592186044416) :
    Calls Try.prog 34 #[.int .i64 c, .int .i64 n] w fun e w' => e = .returned (.int .i64 (pk c n)) ∧ w' = w := by
  by_cases hc : c < 0
  · have a1 : -9223372036854775808 ≤ c + 1 := by omega
    have a2 : c + 1 ≤ 0 := by omega
    have a3 : 0 ≤ -(c + 1) := by omega
    have a4 : -(c + 1) ≤ 9223372036854775807 := by omega
    go_enter Try.func34, Try.ntmps34
    go_wp2
    go_ret
    exact ⟨ret_int (by
      simp only [pk, if_pos hc]
      rw [← Int.neg_tmod, Int.tmod_eq_emod_of_nonneg a3]), rfl⟩
  · have a1 : 0 ≤ c := by omega
    go_enter Try.func34, Try.ntmps34
    go_wp2
    go_ret
    exact ⟨ret_int (by simp only [pk, if_neg (show ¬ c < 0 by omega)]), rfl⟩

end Go.Proofs.Ytkiipmdplpcfeaa
