/- Numerals, plain: what is written is read. -/
import Derived.Lib.AtoiAllCases
import Derived.Lib.ItoaMem
namespace Go.Proofs.YtilkdeghknjjhaaGreatDoor
open Go
theorem parse_app : ∀ (l r : List UInt8) (acc : Nat), Lib.parseUint10 acc (l ++ r) = match Lib.parseUint10 acc l with | .ok a => Lib.parseUint10 a r | .«syntax» => .«syntax» | .range => .range
  | [], r, acc => rfl
  | c :: l, r, acc => by
    rw [List.cons_append, Lib.parseUint10, Lib.parseUint10]
    split
    · split
      · rfl
      · split
        · rfl
        · exact parse_app l r _
    · rfl
theorem digit_toNat {d : Nat} (h : d < 10) : (UInt8.ofNat (48 + d)).toNat = 48 + d := by
  simp [UInt8.toNat_ofNat']; omega
theorem parse_dec (u : Nat) (h : u < 18446744073709551616) : Lib.parseUint10 0 (Lib.decDigits u) = .ok u := by
  induction u using Nat.strongRecOn with
  | _ u ih =>
    by_cases h10 : u < 10
    · rw [Lib.decDigits, dif_pos h10, Lib.parseUint10, digit_toNat h10, if_pos (by omega), if_neg (by omega), if_neg (by omega)]
      simp [Lib.parseUint10]
    · rw [Lib.decDigits, dif_neg h10, parse_app, ih (u / 10) (by omega) (by omega)]
      simp only
      rw [Lib.parseUint10, digit_toNat (by omega), if_pos (by omega), if_neg (by omega), if_neg (by omega)]
      simp [Lib.parseUint10]
      omega
theorem dec_head (u : Nat) : ∃ c r, Lib.decDigits u = c :: r ∧ 48 ≤ c.toNat ∧ c.toNat ≤ 57 := by
  induction u using Nat.strongRecOn with
  | _ u ih =>
    by_cases h10 : u < 10
    · exact ⟨_, [], by rw [Lib.decDigits, dif_pos h10], by rw [digit_toNat h10]; omega, by rw [digit_toNat h10]; omega⟩
    · obtain ⟨c, r, h1, h2, h3⟩ := ih (u / 10) (by omega)
      exact ⟨c, r ++ [UInt8.ofNat (48 + u % 10)], by rw [Lib.decDigits, dif_neg h10, h1]; rfl, h2, h3⟩
theorem dec_ne (u : Nat) : Lib.decDigits u ≠ [] := by obtain ⟨c, r, h, _⟩ := dec_head u; rw [h]; simp
theorem atoi_itoa (n : Nat) (h : n < 9223372036854775808) : Lib.atoiAll (Lib.itoa n) = .ok n := by
  rw [Lib.itoa_nonneg]
  obtain ⟨c, r, h1, h2, h3⟩ := dec_head n
  have hp : Lib.parseMag (c :: r) = .ok n := by
    rw [← h1]
    unfold Lib.parseMag
    rw [if_neg (dec_ne n)]
    exact parse_dec n (by omega)
  rw [h1]
  unfold Lib.atoiAll
  simp only
  rw [if_neg (by omega), hp]
  simp only
  rw [if_neg (by omega), if_neg (by omega), if_neg (by omega)]
theorem itoa_inj {n m : Nat} (hn : n < 9223372036854775808) (hm : m < 9223372036854775808) (h : Lib.itoa n = Lib.itoa m) : n = m := by
  have a := atoi_itoa n hn
  rw [h, atoi_itoa m hm] at a
  injection a with a
  omega
theorem nDigits_le : ∀ (k u : Nat), u < 10 ^ (k + 1) → Lib.nDigits u ≤ k + 1
  | 0, u, h => by rw [Lib.nDigits_small (by simpa using h)]; exact Nat.le_refl _
  | k + 1, u, h => by
    by_cases h10 : u < 10
    · rw [Lib.nDigits_small h10]; omega
    · rw [Lib.nDigits_big h10]
      have := nDigits_le k (u / 10) (by rw [Nat.pow_succ] at h; omega)
      omega
theorem itoa_len (n : Nat) (h : n < 10000000000000000000) : (Lib.itoa n).length ≤ 19 := by
  rw [Lib.itoa_nonneg, Lib.decDigits_length]
  exact nDigits_le 18 n (by omega)
/-- All bytes of a numeral are digits. -/
theorem dec_digits (u : Nat) : ∀ c ∈ Lib.decDigits u, 48 ≤ c.toNat ∧ c.toNat ≤ 57 := by
  induction u using Nat.strongRecOn with
  | _ u ih =>
    by_cases h10 : u < 10
    · rw [Lib.decDigits, dif_pos h10]
      intro c hc
      rw [List.mem_singleton.1 hc, digit_toNat h10]; omega
    · rw [Lib.decDigits, dif_neg h10]
      intro c hc
      rcases List.mem_append.1 hc with hc | hc
      · exact ih (u / 10) (by omega) c hc
      · rw [List.mem_singleton.1 hc, digit_toNat (by omega)]; omega
end Go.Proofs.YtilkdeghknjjhaaGreatDoor
