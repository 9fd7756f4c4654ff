/- The contract of isDot: it answers whether two numbers are a dot, and changes nothing. -/
import Derived.Test.YtkiipmdplpcfeaaProg
import Derived.Test.YtkiipmdplpcfeaaM
import Derived.WalkKit
import Derived.WalkSpells
import Derived.WalkLawsBesides
import Derived.Deep.QuietTactic
import Derived.BigQuiet
namespace Go.Proofs.Ytkiipmdplpcfeaa
open Go.RowKit M
set_option linter.unusedVariables false

set_option maxHeartbeats 400000 in
theorem isDot_any (n c : Int) (w : World) :
    Calls Try.prog 40 #[.int .i64 n, .int .i64 c] w fun e w' => e = .returned (.bool (dotB n c)) ∧ w' = w := by
  by_cases h1 : 0 ≤ n
  · by_cases h2 : n ≤ 15
    · by_cases h3 : 1 ≤ c
      · by_cases h4 : c ≤ 4611686018427387904
        · have e : dotB n c = true := by simp [dotB, h1, h2, h3, h4]
          rw [e]; clear e
          go_enter Try.func40, Try.ntmps40
          go_wp2
          go_ret
          exact ⟨rfl, rfl⟩
        · have e : dotB n c = false := by simp [dotB, h4]
          rw [e]; clear e
          go_enter Try.func40, Try.ntmps40
          go_wp2
          go_ret
          exact ⟨rfl, rfl⟩
      · have e : dotB n c = false := by simp [dotB, h3]
        rw [e]; clear e
        go_enter Try.func40, Try.ntmps40
        go_wp2
        go_ret
        exact ⟨rfl, rfl⟩
    · have e : dotB n c = false := by simp [dotB, h2]
      rw [e]; clear e
      go_enter Try.func40, Try.ntmps40
      go_wp2
      go_ret
      exact ⟨rfl, rfl⟩
  · have e : dotB n c = false := by simp [dotB, h1]
    rw [e]; clear e
    go_enter Try.func40, Try.ntmps40
    go_wp2
    go_ret
    exact ⟨rfl, rfl⟩

end Go.Proofs.Ytkiipmdplpcfeaa
