/- Names of files. Plain facts. -/
import Derived.Test.YtilkdeghknjjhaaGreatDoorPart32
namespace Go.Proofs.YtilkdeghknjjhaaGreatDoor
open Go.RowKit M
set_option linter.unusedVariables false

theorem ba_inj {a b : Bs} (h : ba a = ba b) : a = b := by
  have := congrArg bs h
  rwa [bs_ba, bs_ba] at this
theorem bs_app (a b : ByteArray) : bs (a ++ b) = bs a ++ bs b := by unfold bs; simp
theorem fnm_ne (i : Nat) : fnm i ≠ ByteArray.empty := fun h => by
  have := congrArg bs h
  unfold fnm at this
  rw [bs_app] at this
  have h2 : bs ByteArray.empty = [] := rfl
  have h3 : bs (⟨#[100, 97, 116, 97, 46]⟩ : ByteArray) = [100, 97, 116, 97, 46] := rfl
  rw [h2, h3] at this
  cases this
theorem fnm_inj {i j : Nat} (hi : i < 9223372036854775808) (hj : j < 9223372036854775808) (h : fnm i = fnm j) : i = j := by
  have := congrArg bs h
  unfold fnm at this
  rw [bs_app, bs_app, bs_ba, bs_ba] at this
  exact itoa_inj hi hj (List.append_cancel_left this)
end Go.Proofs.YtilkdeghknjjhaaGreatDoor
