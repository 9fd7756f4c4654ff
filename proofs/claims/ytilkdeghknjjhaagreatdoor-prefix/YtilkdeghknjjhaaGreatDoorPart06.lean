/- Plain facts: the text of the clock that was read is the text; no condition. -/
import Derived.Test.YtilkdeghknjjhaaGreatDoorPart05
namespace Go.Proofs.YtilkdeghknjjhaaGreatDoor
open Go.RowKit M
set_option linter.unusedVariables false

theorem ent_append_lt {l m : List (Int × Int)} {j : Nat} (h : j < l.length) : ent (l ++ m) j = ent l j := by
  simp [ent, List.getD, List.getElem?_append_left h]
theorem rdTo_ent (L : List UInt8) : ∀ m j, j < m → ent (rdTo L m) j = rdE L j
  | 0, j, h => absurd h (Nat.not_lt_zero j)
  | m + 1, j, h => by
    by_cases e : j = m
    · subst e
      have : (rdTo L j).length = j := rdTo_len L j
      simp [rdTo, ent, List.getD, this]
    · rw [rdTo, ent_append_lt (by rw [rdTo_len]; omega)]
      exact rdTo_ent L m j (by omega)

/-- Numbers as bytes. -/
def toB (l : List Int) : List UInt8 := l.map fun n => UInt8.ofNat n.toNat
theorem toB_append (a b : List Int) : toB (a ++ b) = toB a ++ toB b := by simp [toB]

theorem ofNat_eq (b : UInt8) (n : Int) (h : n = b.toNat) : UInt8.ofNat n.toNat = b := by subst h; simp

theorem be8_val (b0 b1 b2 b3 b4 b5 b6 b7 : UInt8) : toB (be8 (val [b0, b1, b2, b3, b4, b5, b6, b7] : Nat)) = [b0, b1, b2, b3, b4, b5, b6, b7] := by
  have h0 := b0.toNat_lt; have h1 := b1.toNat_lt; have h2 := b2.toNat_lt; have h3 := b3.toNat_lt
  have h4 := b4.toNat_lt; have h5 := b5.toNat_lt; have h6 := b6.toNat_lt; have h7 := b7.toNat_lt
  simp only [be8, bsN, toB, val, List.foldl, List.nil_append, List.cons_append, List.map, byteAt]
  simp only [List.cons.injEq, and_true]
  refine ⟨?_, ?_, ?_, ?_, ?_, ?_, ?_, ?_⟩ <;> (apply ofNat_eq; simp only [Nat.reduceMul, Nat.reduceSub, Int.reducePow]; omega)

theorem list8 {l : List UInt8} (h : l.length = 8) : ∃ b0 b1 b2 b3 b4 b5 b6 b7, l = [b0, b1, b2, b3, b4, b5, b6, b7] := by
  match l, h with
  | [a, b, c, d, e, f, g, i], _ => exact ⟨a, b, c, d, e, f, g, i, rfl⟩

theorem be8_back {l : List UInt8} (h : l.length = 8) (hp : 1 ≤ wrap64 (val l)) : toB (be8 (wrap64 (val l))) = l := by
  obtain ⟨b0, b1, b2, b3, b4, b5, b6, b7, rfl⟩ := list8 h
  have h0 := b0.toNat_lt; have h1 := b1.toNat_lt; have h2 := b2.toNat_lt; have h3 := b3.toNat_lt
  have h4 := b4.toNat_lt; have h5 := b5.toNat_lt; have h6 := b6.toNat_lt; have h7 := b7.toNat_lt
  have e : wrap64 (val [b0, b1, b2, b3, b4, b5, b6, b7] : Nat) = (val [b0, b1, b2, b3, b4, b5, b6, b7] : Nat) := by
    revert hp
    simp only [val, List.foldl]
    unfold wrap64
    omega
  rw [e]
  exact be8_val _ _ _ _ _ _ _ _

theorem enc_take (L : List UInt8) (h : Dec L) : ∀ k, k ≤ hd L → toB (encTo (rdTo L (hd L)) k) = L.take (1 + 9 * k) := by
  obtain ⟨hne, hlen, hclk⟩ := h
  intro k
  induction k with
  | zero =>
    intro _
    cases L with
    | nil => exact absurd rfl hne
    | cons b r => simp [encTo, toB, rdTo_len, hd]
  | succ k ih =>
    intro hk
    have hd1 := hclk.2 k (by rw [rdTo_len]; omega)
    rw [rdTo_ent L _ k (by omega)] at hd1
    rw [encTo, toB_append, ih (by omega), rdTo_ent L _ k (by omega)]
    have h8 : ((L.drop (2 + 9 * k)).take 8).length = 8 := by simp; omega
    have hb := be8_back h8 hd1.1.2.2.1
    have ht : L.take (1 + 9 * (k + 1)) = L.take (1 + 9 * k) ++ (L.drop (1 + 9 * k)).take 9 := by
      rw [show 1 + 9 * (k + 1) = (1 + 9 * k) + 9 by omega]; exact List.take_add
    rw [ht]
    congr 1
    have hx : L.drop (1 + 9 * k) = L[1 + 9 * k]'(by omega) :: L.drop (2 + 9 * k) := by
      rw [List.drop_eq_getElem_cons (by omega)]
      congr 2
      omega
    rw [hx, List.take_succ_cons]
    have h9 : toB ((rdE L k).1 :: be8 (rdE L k).2) = UInt8.ofNat ((rdE L k).1).toNat :: toB (be8 (rdE L k).2) := rfl
    rw [h9]
    congr 1
    unfold rdE
    simp [List.getD, List.getElem?_eq_getElem (show 1 + 9 * k < L.length by omega)]

theorem enc_dec (s : ByteArray) (h : Dec s.data.toList) : strOfNums (encL (rdTo s.data.toList (hd s.data.toList))) = s := by
  apply WideShapes.bytes_inj
  rw [strOfNums_data]
  have := enc_take _ h (hd s.data.toList) (Nat.le_refl _)
  unfold encL
  rw [rdTo_len]
  rw [List.take_of_length_le (by rw [h.2.1]; exact Nat.le_refl _)] at this
  exact this

def three : ByteArray := { data := #[1, 1, 0, 0, 0, 0, 0, 0, 0, 3] }
theorem three_dec : Dec three.data.toList ∧ rdTo three.data.toList (hd three.data.toList) = [((1 : Int), (3 : Int))] ∧ hd three.data.toList = 1 := by
  have e : rdTo three.data.toList (hd three.data.toList) = [((1 : Int), (3 : Int))] := by decide +kernel
  refine ⟨⟨by decide, by decide, ?_⟩, e, by decide⟩
  rw [e]
  refine ⟨by decide, fun j hj => ?_⟩
  simp at hj
  subst hj
  exact ⟨⟨by decide, by decide, by decide, by decide⟩, fun h => absurd h (by decide)⟩
theorem rd_three (w : World) : Rd (w.alloc (.cells #[.int .i64 1, .int .i64 3] 183)) (.slice (some ⟨w.heap.size, 0, none⟩) 1 1) [((1 : Int), (3 : Int))] :=
  Rd.own (B := w.heap.size) (World.ownsRow_lit w #[.int .i64 1, .int .i64 3] 1 (Nat.le_refl _) (by decide) rfl) rfl
end Go.Proofs.YtilkdeghknjjhaaGreatDoor
