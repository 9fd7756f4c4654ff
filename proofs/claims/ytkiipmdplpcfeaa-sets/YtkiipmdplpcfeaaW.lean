/- sameList. -/
import Derived.Test.YtkiipmdplpcfeaaZ3
import Derived.WalkKit
import Derived.WalkSpells
import Derived.WalkLawsBesides
import Derived.Deep.QuietTactic
import Derived.BigQuiet
import Derived.Test.YtkiipmdplpcfeaaO
namespace Go.Proofs.Ytkiipmdplpcfeaa
open Go.RowKit M
set_option linter.unusedVariables false

theorem ext_sb {l m : List Sb} (hl : l.length = m.length) (h : ∀ j, j < l.length → sb l j = sb m j) : l = m := by
  apply List.ext_getElem hl
  intro i h1 h2
  have := h i h1
  rwa [sb_get l i h1, sb_get m i h2] at this
theorem guard57 : Try.prog.eqGuardType Try.prog.depth 57 = false := by kernel_rfl
theorem held57 : Try.prog.stoodInHeld 57 = false := by kernel_rfl
theorem toL_inj (a b : ByteArray) (h : a.toList = b.toList) : a = b := by
  rw [Lib.toList_data, Lib.toList_data] at h
  exact WideShapes.bytes_inj h
def sbEq (x y : Sb) : Bool := x.n == y.n && (x.c == y.c && decide (x.v = y.v))
theorem neq_sb (x y : Sb) (w : World) : (binOp .neq 57 (.agg #[.int .i64 x.n, .int .i64 x.c, .string x.v]) (.agg #[.int .i64 y.n, .int .i64 y.c, .string y.v])).run Try.prog w = .ok (.bool (!sbEq x y)) w := by
  rw [run_neq_struct, run_equalIn_agg w 9999 57 _ _ (by kernel_rfl) held57]
  by_cases h : x.n = y.n <;> by_cases h2 : x.c = y.c <;> by_cases h3 : x.v = y.v <;> simp [go_sem, h, h2, h3, Try.underlying57, Op.eqFields, sbEq]
  exact fun hh => h3 (toL_inj _ _ hh)
theorem sbEq_iff (x y : Sb) : sbEq x y = true ↔ x = y := by
  obtain ⟨a, b, c⟩ := x
  obtain ⟨d, e, f⟩ := y
  simp [sbEq]

set_option maxRecDepth 20000 in
set_option maxHeartbeats 800000 in
theorem sameList_any (v u : Value) (l m : List Sb) (w : World) (hv : RdS w v l) (hu : RdS w u m) :
    Calls Try.prog 50 #[v, u] w fun e w' => BoolEnd (l = m) w e w' := by
  obtain ⟨a, cap, rfl, hlc, hc, hA⟩ := hv
  obtain ⟨a', cap', rfl, hlc', hc', hA'⟩ := hu
  have hl1 : (l.length : Int) ≤ 9223372036854775807 := by omega
  have hm1 : (m.length : Int) ≤ 9223372036854775807 := by omega
  by_cases hlen : l.length = m.length
  · have ht : ((l.length : Int) != (m.length : Int)) = false := by rw [hlen]; simp
    have HL : Hid (l.length = m.length) := hlen
    clear hlen hlc hc hlc' hc'
    go_enter Try.func50, Try.ntmps50
    go_wp2
    clear ht
    go_loopw [5] (fun i wr => ∃ k : Nat, k ≤ l.length ∧ i = .int .i64 k ∧ Hid (∀ j, j < k → sb l j = sb m j) ∧ Below w.heap.size w wr)
      (fun i _ => l.length - (intOf i).toNat)
    case atStart => exact ⟨0, Nat.zero_le _, rfl, fun j h => absurd h (Nat.not_lt_zero j), Below.refl _ _⟩
    case round =>
      obtain ⟨k, hk, rfl, he, hb⟩ := hrel
      by_cases hlt : k < l.length
      · have hlt' : k < m.length := by have := HL.out; omega
        obtain ⟨b, off, rfl, hr⟩ := hA (by omega)
        obtain ⟨b', off', rfl, hr'⟩ := hA' (by omega)
        have c1 := cell_later hb (hr k hlt).1
        have c2 := cell_later hb (hr k hlt).2.1
        have c3 := cell_later hb (hr k hlt).2.2
        have d1 := cell_later hb (hr' k hlt').1
        have d2 := cell_later hb (hr' k hlt').2.1
        have d3 := cell_later hb (hr' k hlt').2.2
        have k1 : (k : Int) < (m.length : Int) := by omega
        obtain ⟨x, hx⟩ : ∃ x, sb l k = x := ⟨_, rfl⟩
        obtain ⟨y, hy⟩ : ∃ y, sb m k = y := ⟨_, rfl⟩
        rw [hx] at c1 c2 c3
        rw [hy] at d1 d2 d3
        have HX : Hid (sb l k = x ∧ sb m k = y) := ⟨hx, hy⟩
        clear hA hA' hr hr' hx hy
        have hg57 := guard57
        have hn57 := neq_sb x y
        by_cases hxy : x = y
        · have hs : sbEq x y = true := (sbEq_iff x y).2 hxy
          have HE : Hid (x = y) := hxy
          rw [hs] at hn57
          clear hxy hs
          go_wp2_with fail
          go_quiet (fail)
          go_wp2
          go_roundw
          case rel => exact ⟨k + 1, by omega, by go_num, fun j hj => by
            by_cases e : j = k
            · subst e; rw [HX.out.1, HX.out.2]; exact HE.out
            · exact he.out j (by omega), below_drewN hb _⟩
          case measure => simp [intOf]; omega
        · have hs : sbEq x y = false := by
            cases h : sbEq x y
            · rfl
            · exact absurd ((sbEq_iff x y).1 h) hxy
          have HE : Hid (¬ l = m) := fun h => hxy (by rw [← HX.out.1, ← HX.out.2, h])
          rw [hs] at hn57
          clear hxy hs
          go_wp2_with fail
          go_quiet (fail)
          go_wp2
          go_ret
          exact BoolEnd.no HE.out (below_drewN hb _)
      · have hkk : k = l.length := by omega
        go_wp2
        go_ret
        exact BoolEnd.yes (ext_sb HL.out (fun j hj => he.out j (by omega))) hb
  · have ht : ((l.length : Int) != (m.length : Int)) = true := by simp; omega
    have HL : Hid (¬ l.length = m.length) := hlen
    clear hlen
    go_enter Try.func50, Try.ntmps50
    go_wp2
    go_ret
    exact BoolEnd.no (fun h => HL.out (by rw [h])) (Below.refl _ _)
end Go.Proofs.Ytkiipmdplpcfeaa
