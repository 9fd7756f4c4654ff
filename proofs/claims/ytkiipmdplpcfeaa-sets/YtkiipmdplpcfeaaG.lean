/- The contracts of sameClock and encoded. -/
import Derived.Test.YtkiipmdplpcfeaaF
import Derived.WalkKit
import Derived.WalkSpells
import Derived.WalkLawsBesides
import Derived.Deep.QuietTactic
import Derived.BigQuiet
namespace Go.Proofs.Ytkiipmdplpcfeaa
open Go.RowKit M
set_option linter.unusedVariables false

theorem ext_ent {l m : List (Int × Int)} (hl : l.length = m.length) (h : ∀ j, j < l.length → ent l j = ent m j) : l = m := by
  apply List.ext_getElem hl
  intro i h1 h2
  have := h i h1
  simpa [ent, List.getD, List.getElem?_eq_getElem h1, List.getElem?_eq_getElem h2] using this

theorem he_snoc {l m : List (Int × Int)} {k : Nat} (he : Hid (∀ j, j < k → ent l j = ent m j)) (hx : (!(ent l k).1 == (ent m k).1) = false ∧ (!(ent l k).2 == (ent m k).2) = false) :
    Hid (∀ j, j < k + 1 → ent l j = ent m j) := by
  intro j hj
  by_cases e : j = k
  · subst e; simp at hx; exact Prod.ext hx.1 hx.2
  · exact he.out j (by omega)
theorem guard52 : Try.prog.eqGuardType Try.prog.depth 52 = false := by kernel_rfl
theorem held52 : Try.prog.stoodInHeld 52 = false := by kernel_rfl
theorem neq_ent (a b c d : Int) (w : World) : (binOp .neq 52 (.agg #[.int .i64 a, .int .i64 b]) (.agg #[.int .i64 c, .int .i64 d])).run Try.prog w = .ok (.bool (!(a == c && b == d))) w := by
  rw [run_neq_struct, run_equalIn_agg w 9999 52 _ _ (by kernel_rfl) held52]
  by_cases h : a = c <;> by_cases h2 : b = d <;> simp [go_sem, h, h2, Try.underlying52, Op.eqFields]

set_option maxRecDepth 20000 in
set_option maxHeartbeats 400000 in
theorem sameClock32_any (v u : Value) (l m : List (Int × Int)) (w : World) (hv : Rd w v l) (hu : Rd w u m) :
    Calls Try.prog 32 #[v, u] w fun e w' => ∃ r, e = .returned (.bool r) ∧ (r = true ↔ l = m) ∧ Below w.heap.size w w' := by
  obtain ⟨a, cap, rfl, hlc, hc, hA⟩ := hv
  obtain ⟨a', cap', rfl, hlc', hc', hA'⟩ := hu
  have hl1 : (l.length : Int) ≤ 9223372036854775807 := by omega
  have hm1 : (m.length : Int) ≤ 9223372036854775807 := by omega
  by_cases hlen : l.length = m.length
  · have ht : ((l.length : Int) != (m.length : Int)) = false := by rw [hlen]; simp
    have HL : Hid (l.length = m.length) := hlen
    clear hlen hlc hc hlc' hc'
    go_enter Try.func32, Try.ntmps32
    go_wp2
    clear ht
    go_loopw [5] (fun i wr => ∃ k : Nat, k ≤ l.length ∧ i = .int .i64 k ∧ Hid (∀ j, j < k → ent l j = ent m j) ∧ Below w.heap.size w wr)
      (fun i _ => l.length - (intOf i).toNat)
    case atStart => exact ⟨0, Nat.zero_le _, rfl, fun j h => absurd h (Nat.not_lt_zero j), Below.refl _ _⟩
    case round =>
      obtain ⟨k, hk, rfl, he, hb⟩ := hrel
      by_cases hlt : k < l.length
      · have hlt' : k < m.length := by have := HL.out; omega
        obtain ⟨b, off, rfl, hr⟩ := hA (by omega)
        obtain ⟨b', off', rfl, hr'⟩ := hA' (by omega)
        have c1 : wr.cell? ⟨b, off + k * 2, none⟩ = some (.int .i64 (ent l k).1) := cell_later hb (hr k hlt).1
        have c2 : wr.cell? ⟨b, off + k * 2 + 1, none⟩ = some (.int .i64 (ent l k).2) := cell_later hb (hr k hlt).2
        have c3 : wr.cell? ⟨b', off' + k * 2, none⟩ = some (.int .i64 (ent m k).1) := cell_later hb (hr' k hlt').1
        have c4 : wr.cell? ⟨b', off' + k * 2 + 1, none⟩ = some (.int .i64 (ent m k).2) := cell_later hb (hr' k hlt').2
        have k1 : (k : Int) < (m.length : Int) := by omega
        clear hA hA' hr hr'
        have hg52 := guard52
        have hn52 := neq_ent (ent l k).1 (ent l k).2 (ent m k).1 (ent m k).2
        go_wp2_with fail
        go_quiet (fail)
        go_wp2
        · have hx : (!(ent l k).1 == (ent m k).1) = true ∨ (!(ent l k).2 == (ent m k).2) = true := by assumption
          go_ret
          exact ⟨false, rfl, by simp; intro h; subst h; simp at hx, below_drewN hb _⟩
        · have hx : (!(ent l k).1 == (ent m k).1) = false ∧ (!(ent l k).2 == (ent m k).2) = false := by assumption
          go_roundw
          case rel => exact ⟨k + 1, by omega, by go_num, he_snoc he hx, below_drewN hb _⟩
          case measure => simp [intOf]; omega
      · have hkk : k = l.length := by omega
        go_wp2
        go_ret
        exact ⟨true, rfl, by simp; exact ext_ent HL.out (fun j hj => he.out j (by omega)), hb⟩
  · have ht : ((l.length : Int) != (m.length : Int)) = true := by simp; omega
    have HL : Hid (¬ l.length = m.length) := hlen
    clear hlen
    go_enter Try.func32, Try.ntmps32
    go_wp2
    go_ret
    exact ⟨false, rfl, by simp; intro h; exact HL.out (by rw [h]), Below.refl _ _⟩

set_option maxRecDepth 20000 in
set_option maxHeartbeats 400000 in
theorem sameClock12_any (v u : Value) (l m : List (Int × Int)) (w : World) (hv : Rd w v l) (hu : Rd w u m) :
    Calls Try.prog 12 #[v, u] w fun e w' => ∃ r, e = .returned (.bool r) ∧ (r = true ↔ l = m) ∧ Below w.heap.size w w' := by
  obtain ⟨a, cap, rfl, hlc, hc, hA⟩ := hv
  obtain ⟨a', cap', rfl, hlc', hc', hA'⟩ := hu
  have hl1 : (l.length : Int) ≤ 9223372036854775807 := by omega
  have hm1 : (m.length : Int) ≤ 9223372036854775807 := by omega
  by_cases hlen : l.length = m.length
  · have ht : ((l.length : Int) != (m.length : Int)) = false := by rw [hlen]; simp
    have HL : Hid (l.length = m.length) := hlen
    clear hlen hlc hc hlc' hc'
    go_enter Try.func12, Try.ntmps12
    go_wp2
    clear ht
    go_loopw [5] (fun i wr => ∃ k : Nat, k ≤ l.length ∧ i = .int .i64 k ∧ Hid (∀ j, j < k → ent l j = ent m j) ∧ Below w.heap.size w wr)
      (fun i _ => l.length - (intOf i).toNat)
    case atStart => exact ⟨0, Nat.zero_le _, rfl, fun j h => absurd h (Nat.not_lt_zero j), Below.refl _ _⟩
    case round =>
      obtain ⟨k, hk, rfl, he, hb⟩ := hrel
      by_cases hlt : k < l.length
      · have hlt' : k < m.length := by have := HL.out; omega
        obtain ⟨b, off, rfl, hr⟩ := hA (by omega)
        obtain ⟨b', off', rfl, hr'⟩ := hA' (by omega)
        have c1 : wr.cell? ⟨b, off + k * 2, none⟩ = some (.int .i64 (ent l k).1) := cell_later hb (hr k hlt).1
        have c2 : wr.cell? ⟨b, off + k * 2 + 1, none⟩ = some (.int .i64 (ent l k).2) := cell_later hb (hr k hlt).2
        have c3 : wr.cell? ⟨b', off' + k * 2, none⟩ = some (.int .i64 (ent m k).1) := cell_later hb (hr' k hlt').1
        have c4 : wr.cell? ⟨b', off' + k * 2 + 1, none⟩ = some (.int .i64 (ent m k).2) := cell_later hb (hr' k hlt').2
        have k1 : (k : Int) < (m.length : Int) := by omega
        clear hA hA' hr hr'
        have hg52 := guard52
        have hn52 := neq_ent (ent l k).1 (ent l k).2 (ent m k).1 (ent m k).2
        go_wp2_with fail
        go_quiet (fail)
        go_wp2
        · have hx : (!(ent l k).1 == (ent m k).1) = true ∨ (!(ent l k).2 == (ent m k).2) = true := by assumption
          go_ret
          exact ⟨false, rfl, by simp; intro h; subst h; simp at hx, below_drewN hb _⟩
        · have hx : (!(ent l k).1 == (ent m k).1) = false ∧ (!(ent l k).2 == (ent m k).2) = false := by assumption
          go_roundw
          case rel => exact ⟨k + 1, by omega, by go_num, he_snoc he hx, below_drewN hb _⟩
          case measure => simp [intOf]; omega
      · have hkk : k = l.length := by omega
        go_wp2
        go_ret
        exact ⟨true, rfl, by simp; exact ext_ent HL.out (fun j hj => he.out j (by omega)), hb⟩
  · have ht : ((l.length : Int) != (m.length : Int)) = true := by simp; omega
    have HL : Hid (¬ l.length = m.length) := hlen
    clear hlen
    go_enter Try.func12, Try.ntmps12
    go_wp2
    go_ret
    exact ⟨false, rfl, by simp; intro h; exact HL.out (by rw [h]), Below.refl _ _⟩

set_option maxHeartbeats 400000 in
theorem encoded_yes (v : Value) (l : List (Int × Int)) (w : World) (hrd : Rd w v l) (hk : Clk l) :
    Calls Try.prog 33 #[v] w fun e w' => e = .returned (.string (strOfNums (encL l))) ∧ Below w.heap.size w w' := by
  go_enter Try.func33, Try.ntmps33
  go_wp2_with fail
  refine (Encode_yes v l _ hrd hk).mono ?_
  rintro e w1 ⟨rfl, hb⟩
  go_wp2
  go_ret
  exact ⟨rfl, hb⟩
end Go.Proofs.Ytkiipmdplpcfeaa
