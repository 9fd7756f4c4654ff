/- The contracts of pick and clock: some clock comes out of any numbers. -/
import Derived.Test.YtkiipmdplpcfeaaL
import Derived.WalkKit
import Derived.WalkSpells
import Derived.WalkLawsBesides
import Derived.Deep.QuietTactic
import Derived.BigQuiet
namespace Go.Proofs.Ytkiipmdplpcfeaa
open Go.RowKit M
set_option linter.unusedVariables false

/-- What pick answers. -/
def pk (c n : Int) : Int := (if c < 0 then -(c + 1) else c) % n
theorem pk_lt (c n : Int) (h : 0 < n) : 0 ≤ pk c n ∧ pk c n < n := ⟨Int.emod_nonneg _ (by omega), Int.emod_lt_of_pos _ h⟩

set_option maxHeartbeats 400000 in
theorem pick_any (c n : Int) (w : World) (h0 : -9223372036854775808 ≤ c) (h1 : c ≤ 9223372036854775807) (hn : 1 ≤ n) (hn2 : n ≤ 1000000) :
    Calls Try.prog 34 #[.int .i64 c, .int .i64 n] w fun e w' => e = .returned (.int .i64 (pk c n)) ∧ w' = w := by
  by_cases hc : c < 0
  · have a1 : -9223372036854775808 ≤ c + 1 := by omega
    have a2 : c + 1 ≤ 0 := by omega
    have a3 : 0 ≤ -(c + 1) := by omega
    have a4 : -(c + 1) ≤ 9223372036854775807 := by omega
    go_enter Try.func34, Try.ntmps34
    go_wp2
    go_ret
    exact ⟨ret_int (by
      simp only [pk, if_pos hc]
      rw [← Int.neg_tmod, Int.tmod_eq_emod_of_nonneg a3]), rfl⟩
  · have a1 : 0 ≤ c := by omega
    go_enter Try.func34, Try.ntmps34
    go_wp2
    go_ret
    exact ⟨ret_int (by simp only [pk, if_neg (show ¬ c < 0 by omega)]), rfl⟩

theorem div_pow_bound (x : Int) (m : Nat) (h0 : -9223372036854775808 ≤ x) (h1 : x ≤ 9223372036854775807) : -9223372036854775808 ≤ x / 2 ^ m ∧ x / 2 ^ m ≤ 9223372036854775807 := by
  have hp : (0 : Int) < 2 ^ m := Int.pow_pos (by decide)
  have hp1 : (1 : Int) ≤ 2 ^ m := hp
  constructor
  · rw [Int.le_ediv_iff_mul_le hp]
    have : (-9223372036854775808 : Int) * 2 ^ m ≤ -9223372036854775808 * 1 := Int.mul_le_mul_of_nonpos_left (by decide) hp1
    omega
  · by_cases h : 0 ≤ x
    · have := Int.ediv_le_self (2 ^ m) h
      omega
    · have := Int.ediv_neg_of_neg_of_pos (show x < 0 by omega) hp
      omega

set_option maxRecDepth 20000 in
set_option maxHeartbeats 400000 in
theorem clock_any (a b : Int) (w : World) (hb0 : -9223372036854775808 ≤ b) (hb1 : b ≤ 9223372036854775807) :
    Calls Try.prog 31 #[.int .i64 a, .int .i64 b] w fun e w' => ∃ v l, e = .returned v ∧ Clk l ∧ w'.ownsRow w.heap.size 52 2 v l.length (cellsE l) ∧ Below w.heap.size w w' := by
  obtain ⟨i0, hi, hz0, hz1, hz2⟩ := info_parts Try.info52
  go_enter Try.func31, Try.ntmps31
  go_wp2
  go_loopw [5, 6] (fun v i wr => ∃ (k : Nat) (l : List (Int × Int)), k ≤ 16 ∧ l.length ≤ 8 ∧ i = .int .i64 k ∧ Hid (US l ∧ ∀ e ∈ l, e.1 < (k : Int)) ∧ wr.ownsRow w.heap.size 52 2 v l.length (cellsE l) ∧ Below w.heap.size w wr)
    (fun _ i _ => 16 - (intOf i).toNat)
  case atStart => exact ⟨0, [], Nat.zero_le _, by simp, rfl, ⟨⟨by simp, by simp⟩, by simp⟩, World.ownsRow_nil _ _ _ _, Below.refl _ _⟩
  case round =>
    obtain ⟨k, l, hk, hl8, rfl, hu, ho, hb⟩ := hrel
    have hsz := hb.size
    have hvl : ∃ a cap, u5 = .slice a l.length cap := by
      rcases ho.2 with ⟨h1, h2⟩ | ⟨g, cap, cur, h1, _⟩
      · exact ⟨none, 0, by rw [h1, h2]⟩
      · exact ⟨_, _, h1⟩
    obtain ⟨a5, cap5, rfl⟩ := hvl
    by_cases hlt : k < 16
    · have k15 : (k : Int) ≤ 15 := by omega
      by_cases hl : l.length < 8
      · have hdv := div_pow_bound b (2 * k) hb0 hb1
        go_wp2_with fail
        · refine (pick_any _ 7 _ hdv.1 hdv.2 (by decide) (by decide)).mono ?_
          rintro e w1 ⟨rfl, rfl⟩
          have hp := pk_lt (b / 2 ^ (2 * k)) 7 (by decide)
          obtain ⟨q, hq⟩ : ∃ q, pk (b / 2 ^ (2 * k)) 7 = q := ⟨_, rfl⟩
          rw [hq] at hp
          rw [hq]
          have p1 := hp.1
          have p2 := hp.2
          clear hq hp hdv
          go_wp2_with (first
            | (at_builtin; refine wpList_append_own _ rfl _ _ 22 rfl w.heap.size 52 i0 (.agg #[.int .i64 0, .int .i64 0]) 2 16 Try.underlying22 hi hz0 hz1 hz2 rfl (by decide) _ _ _ rfl (ho.alloc _) ⟨w1.heap.size, 0, none⟩ 1 1 [.int .i64 (k : Int), .int .i64 (1 + q)] rfl rfl ?c1 ?c2 ?c3 ?c4 ?c5 ?_))
          case c1 => exact cell_two_new _ _ _ _
          case c2 => intro u hu; simp at hu; rcases hu with rfl | rfl <;> rfl
          case c3 => unfold maxLen; omega
          case c4 => omega
          case c5 => simp; omega
          · intro v' w2 hown' hgrow _
            have hb3 : Below w.heap.size w w2 := (hb.alloc (by omega) _).grown hgrow (by simp; omega) (fun q hq => (ho.lt q hq).1)
            go_wp2
            go_roundw
            case rel =>
              refine ⟨k + 1, l ++ [((k : Int), 1 + q)], by omega, by simp; omega, by go_num, ?_, by rw [List.length_append, cellsE_snoc]; exact hown', hb3⟩
              have hU := hu.out
              refine ⟨⟨?_, ?_⟩, ?_⟩
              · rw [List.pairwise_append]
                exact ⟨hU.1.1, by simp, fun x hx y hy => by simp at hy; subst hy; exact hU.2 x hx⟩
              · intro x hx
                rcases List.mem_append.1 hx with h | h
                · exact hU.1.2 x h
                · simp at h; subst h; exact ⟨by show (0 : Int) ≤ (k : Int); omega, by show (k : Int) ≤ 15; omega, by show 1 ≤ 1 + q; omega, by show 1 + q ≤ 4611686018427387904; omega⟩
              · intro x hx
                rcases List.mem_append.1 hx with h | h
                · have := hU.2 x h; omega
                · simp at h; subst h; show (k : Int) < ((k + 1 : Nat) : Int); omega
            case measure => simp [intOf]; omega
        · go_roundw
          case rel => exact ⟨k + 1, l, by omega, hl8, by go_num, ⟨hu.out.1, fun x hx => by have := hu.out.2 x hx; omega⟩, ho, hb⟩
          case measure => simp [intOf]; omega
      · have g8 : decide ((l.length : Int) < 8) = false := by simp; omega
        go_wp2
        go_ret
        exact ⟨_, l, rfl, (clk_iff l).2 ⟨hl8, hu.out.1⟩, ho, hb⟩
    · have k15 : decide ((k : Int) ≤ 15) = false := by simp; omega
      go_wp2
      go_ret
      exact ⟨_, l, rfl, (clk_iff l).2 ⟨hl8, hu.out.1⟩, ho, hb⟩
end Go.Proofs.Ytkiipmdplpcfeaa
