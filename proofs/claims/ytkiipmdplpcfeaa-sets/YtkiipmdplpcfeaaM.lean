/- The plain model: clocks as lists of pairs of integers. Nothing of the program is named here. -/
namespace Go.Proofs.Ytkiipmdplpcfeaa.M
def Dot (n c : Int) : Prop := 0 ≤ n ∧ n ≤ 15 ∧ 1 ≤ c ∧ c ≤ 4611686018427387904
def dotB (n c : Int) : Bool := decide (0 ≤ n) && decide (n ≤ 15) && decide (1 ≤ c) && decide (c ≤ 4611686018427387904)
theorem dotB_iff (n c : Int) : dotB n c = true ↔ Dot n c := by unfold dotB Dot; simp [and_assoc]
def ent (l : List (Int × Int)) (i : Nat) : Int × Int := l.getD i (0, 0)
def Up (l : List (Int × Int)) (k : Nat) : Prop := ∀ j, j < k → Dot (ent l j).1 (ent l j).2 ∧ (0 < j → (ent l (j - 1)).1 < (ent l j).1)
def Clk (l : List (Int × Int)) : Prop := l.length ≤ 8 ∧ Up l l.length
theorem Up.zero (l : List (Int × Int)) : Up l 0 := fun j h => absurd h (Nat.not_lt_zero j)
theorem Up.succ {l : List (Int × Int)} {k : Nat} (h : Up l k) (d : Dot (ent l k).1 (ent l k).2) (u : 0 < k → (ent l (k - 1)).1 < (ent l k).1) : Up l (k + 1) := by
  intro j hj
  by_cases e : j = k
  · subst e; exact ⟨d, u⟩
  · exact h j (by omega)
def byteAt (c : Int) (j : Nat) : Int := c / 2 ^ (8 * j) % 256
def bsN (c : Int) : Nat → List Int
  | 0 => []
  | n + 1 => bsN c n ++ [byteAt c (7 - n)]
theorem bsN_len (c : Int) : ∀ n, (bsN c n).length = n
  | 0 => rfl
  | n + 1 => by simp [bsN, bsN_len c n]
def be8 (c : Int) : List Int := bsN c 8
/-- The numbers of a clock's text behind its first k entries. -/
def encTo (l : List (Int × Int)) : Nat → List Int
  | 0 => [(l.length : Int)]
  | k + 1 => encTo l k ++ ((ent l k).1 :: be8 (ent l k).2)
def encL (l : List (Int × Int)) : List Int := encTo l l.length
theorem encTo_len (l : List (Int × Int)) : ∀ k, (encTo l k).length = 1 + 9 * k
  | 0 => rfl
  | k + 1 => by simp [encTo, encTo_len l k, be8, bsN_len]; omega
end Go.Proofs.Ytkiipmdplpcfeaa.M
