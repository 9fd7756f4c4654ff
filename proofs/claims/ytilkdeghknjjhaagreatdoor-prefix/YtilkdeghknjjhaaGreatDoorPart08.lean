/- Plain facts: a clock comes back from its text; join is the same from either side and either end. -/
import Derived.Test.YtilkdeghknjjhaaGreatDoorPart06
import Derived.Test.YtilkdeghknjjhaaGreatDoorPart07
namespace Go.Proofs.YtilkdeghknjjhaaGreatDoor
open Go.RowKit M
set_option linter.unusedVariables false

theorem toNat_ofNat (n : Int) (h0 : 0 ≤ n) (h1 : n < 256) : ((UInt8.ofNat n.toNat).toNat : Int) = n := by
  rw [UInt8.toNat_ofNat']; omega
theorem val_bsN (c : Int) (h0 : 0 ≤ c) (h1 : c < 18446744073709551616) : ∀ n, n ≤ 8 → ((val (toB (bsN c n)) : Nat) : Int) = c / 2 ^ (8 * (8 - n))
  | 0, _ => by
    show (0 : Int) = c / 2 ^ 64
    rw [Int.ediv_eq_zero_of_lt h0 (by simpa using h1)]
  | n + 1, h => by
    have ih := val_bsN c h0 h1 n (by omega)
    have hb : 0 ≤ byteAt c (7 - n) ∧ byteAt c (7 - n) < 256 := by unfold byteAt; omega
    rw [bsN, toB_append]
    show ((val (toB (bsN c n) ++ [UInt8.ofNat (byteAt c (7 - n)).toNat]) : Nat) : Int) = _
    rw [val_snoc]
    have hq : c / 2 ^ (8 * (8 - n)) = (c / 2 ^ (8 * (7 - n))) / 256 := by
      rw [Int.ediv_ediv_of_nonneg (by exact Int.le_of_lt (Int.pow_pos (by decide))), show 8 * (8 - n) = 8 * (7 - n) + 8 by omega, Int.pow_add]
      rfl
    rw [show 8 * (8 - (n + 1)) = 8 * (7 - n) by omega]
    have h2 := toNat_ofNat _ hb.1 hb.2
    have h3 : byteAt c (7 - n) = c / 2 ^ (8 * (7 - n)) % 256 := rfl
    omega
theorem val_be8 (c : Int) (h0 : 0 ≤ c) (h1 : c < 9223372036854775808) : wrap64 ((val (toB (be8 c)) : Nat) : Int) = c := by
  unfold be8
  rw [val_bsN c h0 (by omega) 8 (by omega)]
  simp only [Nat.sub_self, Nat.mul_zero, Int.pow_zero, Int.ediv_one]
  unfold wrap64; omega

theorem encTo_split (X : List (Int × Int)) (k : Nat) : ∀ n, k < n → ∃ r, encTo X n = encTo X k ++ ((ent X k).1 :: be8 (ent X k).2) ++ r
  | 0, h => absurd h (Nat.not_lt_zero k)
  | n + 1, h => by
    by_cases e : k = n
    · subst e; exact ⟨[], by simp [encTo]⟩
    · obtain ⟨r, hr⟩ := encTo_split X k n (by omega)
      exact ⟨r ++ ((ent X n).1 :: be8 (ent X n).2), by rw [encTo, hr]; simp⟩
theorem toB_len (l : List Int) : (toB l).length = l.length := by simp [toB]
theorem be8_len (c : Int) : (be8 c).length = 8 := bsN_len c 8

theorem rdE_enc {X : List (Int × Int)} (h : Clk X) (k : Nat) (hk : k < X.length) : rdE (toB (encL X)) k = ent X k := by
  obtain ⟨r, hr⟩ := encTo_split X k X.length hk
  have hd := (h.2 k hk).1
  have hl : (toB (encTo X k)).length = 1 + 9 * k := by rw [toB_len, encTo_len]
  have hL : toB (encL X) = toB (encTo X k) ++ (UInt8.ofNat ((ent X k).1).toNat :: (toB (be8 (ent X k).2) ++ toB r)) := by
    unfold encL
    rw [hr, toB_append, toB_append, List.append_assoc]; rfl
  unfold rdE
  rw [hL]
  have e1 : (toB (encTo X k) ++ (UInt8.ofNat ((ent X k).1).toNat :: (toB (be8 (ent X k).2) ++ toB r))).getD (1 + 9 * k) 0 = UInt8.ofNat ((ent X k).1).toNat := by
    rw [List.getD, List.getElem?_append_right (by omega), hl]; simp
  have e2 : ((toB (encTo X k) ++ (UInt8.ofNat ((ent X k).1).toNat :: (toB (be8 (ent X k).2) ++ toB r))).drop (2 + 9 * k)).take 8 = toB (be8 (ent X k).2) := by
    rw [List.drop_append, List.drop_eq_nil_of_le (by omega), hl, show 2 + 9 * k - (1 + 9 * k) = 1 by omega]
    simp only [List.nil_append, List.drop_succ_cons, List.drop_zero]
    rw [List.take_append_of_le_length (by rw [toB_len, be8_len]; exact Nat.le_refl _), List.take_of_length_le (by rw [toB_len, be8_len]; exact Nat.le_refl _)]
  rw [e1, e2, toNat_ofNat _ hd.1 (by have := hd.2.1; omega), val_be8 _ (by have := hd.2.2.1; omega) (by have := hd.2.2.2; omega)]

theorem hd_enc {X : List (Int × Int)} (h : Clk X) : hd (toB (encL X)) = X.length := by
  have h8 := h.1
  have : ∀ n, ∃ r, toB (encTo X n) = UInt8.ofNat X.length :: r := by
    intro n
    induction n with
    | zero => exact ⟨[], by simp [encTo, toB]⟩
    | succ n ih => obtain ⟨r, hr⟩ := ih; exact ⟨r ++ toB ((ent X n).1 :: be8 (ent X n).2), by rw [encTo, toB_append, hr]; rfl⟩
  obtain ⟨r, hr⟩ := this X.length
  unfold encL hd
  rw [hr]
  show (UInt8.ofNat X.length).toNat = X.length
  rw [UInt8.toNat_ofNat']; omega
theorem rdTo_enc {X : List (Int × Int)} (h : Clk X) : rdTo (toB (encL X)) (hd (toB (encL X))) = X := by
  rw [hd_enc h]
  exact ext_ent (rdTo_len _ _) fun j hj => by
    rw [rdTo_len] at hj
    rw [rdTo_ent _ _ _ hj, rdE_enc h j hj]
theorem dec_enc {X : List (Int × Int)} (h : Clk X) : Dec (toB (encL X)) := by
  have hl : (toB (encL X)).length = 1 + 9 * X.length := by unfold encL; rw [toB_len, encTo_len]
  refine ⟨fun e => by rw [e] at hl; simp at hl; omega, by rw [hd_enc h]; exact hl, by rw [rdTo_enc h]; exact h⟩
theorem str_enc (X : List (Int × Int)) : (strOfNums (encL X)).data.toList = toB (encL X) := strOfNums_data _
theorem str_inj {X Y : List (Int × Int)} (hx : Clk X) (hy : Clk Y) (h : strOfNums (encL X) = strOfNums (encL Y)) : X = Y := by
  have : toB (encL X) = toB (encL Y) := by rw [← str_enc, ← str_enc, h]
  rw [← rdTo_enc hx, ← rdTo_enc hy, this]
theorem str_size {X : List (Int × Int)} (h : Clk X) : (strOfNums (encL X)).size = 1 + 9 * X.length := by
  rw [strOfNums_size]; unfold encL; rw [encTo_len]

theorem jn_comm {l m : List (Int × Int)} (hl : US l) (hm : US m) : jn [l, m] = jn [m, l] :=
  US_ext (US_jn (us2 hl hm)) (US_jn (us2 hm hl)) fun n hn => by rw [cS_jn2 hl hm n hn, cS_jn2 hm hl n hn, Int.max_comm]
theorem jn_self {l : List (Int × Int)} (hl : US l) : jn [l, l] = l :=
  US_ext (US_jn (us2 hl hl)) hl fun n hn => by rw [cS_jn2 hl hl n hn, Int.max_self]
theorem jn_assoc {l m k : List (Int × Int)} (hl : US l) (hm : US m) (hk : US k) : jn [jn [l, m], k] = jn [l, jn [m, k]] := by
  have a := US_jn (us2 hl hm)
  have b := US_jn (us2 hm hk)
  refine US_ext (US_jn (us2 a hk)) (US_jn (us2 hl b)) fun n hn => ?_
  rw [cS_jn2 a hk n hn, cS_jn2 hl hm n hn, cS_jn2 hl b n hn, cS_jn2 hm hk n hn, Int.max_assoc]
end Go.Proofs.YtilkdeghknjjhaaGreatDoor
