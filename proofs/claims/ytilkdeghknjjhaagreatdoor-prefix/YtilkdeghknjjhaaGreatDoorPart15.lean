/- The contracts of both answers in one form, and the walk of Clocks. -/
import Derived.Test.YtilkdeghknjjhaaGreatDoorPart14
import Derived.WalkKit
import Derived.WalkSpells
import Derived.WalkLawsBesides
namespace Go.Proofs.YtilkdeghknjjhaaGreatDoor
open Go.RowKit M
set_option linter.unusedVariables false

/-- What Join answers, as a list and a number. -/
def JR (A B J : List (Int × Int)) (c : Int) : Prop :=
  ((¬ Clk A ∨ ¬ Clk B) ∧ J = [] ∧ c = 1) ∨ (Clk A ∧ Clk B ∧ 8 < (jn [A, B]).length ∧ J = [] ∧ c = 5) ∨ (Clk A ∧ Clk B ∧ (jn [A, B]).length ≤ 8 ∧ J = jn [A, B] ∧ c = 0)
theorem JR.fn {A B J J' : List (Int × Int)} {c c' : Int} (h : JR A B J c) (k : JR A B J' c') : J' = J ∧ c' = c := by
  rcases h with ⟨h1, rfl, rfl⟩ | ⟨h1, h2, h3, rfl, rfl⟩ | ⟨h1, h2, h3, rfl, rfl⟩ <;> rcases k with ⟨k1, rfl, rfl⟩ | ⟨k1, k2, k3, rfl, rfl⟩ | ⟨k1, k2, k3, rfl, rfl⟩ <;> first
    | exact ⟨rfl, rfl⟩
    | exact absurd (And.intro h1 h2) (by rcases k1 with k | k <;> simp [k])
    | exact absurd (And.intro k1 k2) (by rcases h1 with k | k <;> simp [k])
    | omega
theorem JR.len {A B J : List (Int × Int)} {c : Int} (h : JR A B J c) : J.length ≤ 8 := by
  rcases h with ⟨_, rfl, _⟩ | ⟨_, _, _, rfl, _⟩ | ⟨_, _, h, rfl, _⟩
  · simp
  · simp
  · exact h
theorem JR.of {w w' : World} {A B : List (Int × Int)} {e : Ending} (h : JoinEnd w A B e w') : ∃ v J c, e = .returned (.tuple #[v, .int .i64 c]) ∧ JR A B J c ∧ w'.ownsRow w.heap.size 183 2 v J.length (cellsE J) := by
  rcases h with ⟨h1, he⟩ | ⟨h1, h2, h3, he⟩ | ⟨h1, h2, h3, v, he, ho⟩
  · exact ⟨_, [], 1, he, .inl ⟨h1, rfl, rfl⟩, World.ownsRow_nil _ _ _ _⟩
  · exact ⟨_, [], 5, he, .inr (.inl ⟨h1, h2, h3, rfl, rfl⟩), World.ownsRow_nil _ _ _ _⟩
  · exact ⟨_, _, 0, he, .inr (.inr ⟨h1, h2, h3, rfl, rfl⟩), ho⟩
theorem refJoin_u (v u : Value) (A B : List (Int × Int)) (w : World) (hv : Rd w v A) (hu : Rd w u B) :
    Calls Tryz.prog 221 #[v, u] w fun e w' => ∃ r J c, e = .returned (.tuple #[r, .int .i64 c]) ∧ JR A B J c ∧ w'.ownsRow w.heap.size 183 2 r J.length (cellsE J) ∧ Below w.heap.size w w' :=
  (refJoin_any v u A B w hv hu).mono fun e w' ⟨h, hb⟩ => by obtain ⟨r, J, c, a, b, d⟩ := JR.of h; exact ⟨r, J, c, a, b, d, hb⟩

/-- What Decode answers. -/
def DR (s : ByteArray) (J : List (Int × Int)) (c : Int) : Prop :=
  (¬ Dec s.data.toList ∧ J = [] ∧ c = 2) ∨ (Dec s.data.toList ∧ J = rdTo s.data.toList (hd s.data.toList) ∧ c = 0)
theorem DR.fn {s : ByteArray} {J J' : List (Int × Int)} {c c' : Int} (h : DR s J c) (k : DR s J' c') : J' = J ∧ c' = c := by
  rcases h with ⟨h1, rfl, rfl⟩ | ⟨h1, rfl, rfl⟩ <;> rcases k with ⟨k1, rfl, rfl⟩ | ⟨k1, rfl, rfl⟩ <;> first
    | exact ⟨rfl, rfl⟩
    | exact absurd h1 k1
    | exact absurd k1 h1
theorem DR.len {s : ByteArray} {J : List (Int × Int)} {c : Int} (h : DR s J c) : J.length ≤ 8 := by
  rcases h with ⟨_, rfl, _⟩ | ⟨h, rfl, _⟩
  · simp
  · exact h.2.2.1
theorem Decode_u (s : ByteArray) (w : World) (hs : s.size ≤ maxLen) :
    Calls Tryz.prog 88 #[.string s] w fun e w' => ∃ r J c, e = .returned (.tuple #[r, .int .i64 c]) ∧ DR s J c ∧ w'.ownsRow w.heap.size 183 2 r J.length (cellsE J) ∧ Below w.heap.size w w' :=
  (Decode_any s w hs).mono fun e w' ⟨hb, h⟩ => by
    rcases h with ⟨h1, he⟩ | ⟨h1, v, he, ho⟩
    · exact ⟨_, [], 2, he, .inl ⟨h1, rfl, rfl⟩, World.ownsRow_nil _ _ _ _, hb⟩
    · exact ⟨v, _, 0, he, .inr ⟨h1, rfl, rfl⟩, by rw [rdTo_len]; exact ho, hb⟩
theorem refDecode_u (s : ByteArray) (w : World) (hs : s.size ≤ maxLen) :
    Calls Tryz.prog 215 #[.string s] w fun e w' => ∃ r J c, e = .returned (.tuple #[r, .int .i64 c]) ∧ DR s J c ∧ w'.ownsRow w.heap.size 183 2 r J.length (cellsE J) ∧ Below w.heap.size w w' :=
  (refDecode_any s w hs).mono fun e w' ⟨h, hb⟩ => by
    rcases h with ⟨h1, he⟩ | ⟨h1, v, he, ho⟩
    · exact ⟨_, [], 2, he, .inl ⟨h1, rfl, rfl⟩, World.ownsRow_nil _ _ _ _, hb⟩
    · exact ⟨v, _, 0, he, .inr ⟨h1, rfl, rfl⟩, by rw [rdTo_len]; exact ho, hb⟩

/-- What Encode answers. -/
def ER (B : List (Int × Int)) (t : ByteArray) (c : Int) : Prop := (¬ Clk B ∧ t = ByteArray.empty ∧ c = 1) ∨ (Clk B ∧ t = strOfNums (encL B) ∧ c = 0)
theorem ER.fn {B : List (Int × Int)} {t t' : ByteArray} {c c' : Int} (h : ER B t c) (k : ER B t' c') : t' = t ∧ c' = c := by
  rcases h with ⟨h1, rfl, rfl⟩ | ⟨h1, rfl, rfl⟩ <;> rcases k with ⟨k1, rfl, rfl⟩ | ⟨k1, rfl, rfl⟩ <;> first
    | exact ⟨rfl, rfl⟩
    | exact absurd h1 k1
    | exact absurd k1 h1
theorem Encode_u (v : Value) (B : List (Int × Int)) (w : World) (hv : Rd w v B) :
    Calls Tryz.prog 56 #[v] w fun e w' => ∃ t c, e = .returned (.tuple #[.string t, .int .i64 c]) ∧ ER B t c ∧ Below w.heap.size w w' := by
  by_cases h : Clk B
  · exact (Encode_yes v B w hv h).mono fun e w' ⟨he, hb⟩ => ⟨_, _, he, .inr ⟨h, rfl, rfl⟩, hb⟩
  · exact (Encode_no v B w hv h).mono fun e w' ⟨he, hb⟩ => ⟨_, _, he, .inl ⟨h, rfl, rfl⟩, hb⟩
theorem refEncode_u (v : Value) (B : List (Int × Int)) (w : World) (hv : Rd w v B) :
    Calls Tryz.prog 171 #[v] w fun e w' => ∃ t c, e = .returned (.tuple #[.string t, .int .i64 c]) ∧ ER B t c ∧ Below w.heap.size w w' := by
  by_cases h : Clk B
  · exact (refEncode_yes v B w hv h).mono fun e w' ⟨he, hb⟩ => ⟨_, _, he, .inr ⟨h, rfl, rfl⟩, hb⟩
  · exact (refEncode_no v B w hv h).mono fun e w' ⟨he, hb⟩ => ⟨_, _, he, .inl ⟨h, rfl, rfl⟩, hb⟩

/-- A row made behind another one is kept where the other one is filled. -/
theorem kept_behind {w w' : World} {C : Nat} {v u : Value} {m : Nat} {ys : List Value} (hu : w.ownsRow C 183 2 u m ys) (hv : ∀ q, v.ownBlock = some q → q < C) (hg : w.grownBy w' v.ownBlock) : w'.ownsRow C 183 2 u m ys := by
  refine hu.kept hg ?_
  cases hq : u.ownBlock with
  | none => exact .inl rfl
  | some q =>
    refine .inr fun e => ?_
    have h1 := (hu.lt q hq).1
    have h2 := hv q (by rw [← e])
    omega
theorem rd_mks {w : World} {B : Nat} {v : Value} {n : Nat} {mark : Int} (h : w.ownsRow B 183 2 v n (cellsE (mks mark n))) : Rd w v (mks mark n) := Rd.own h (by simp [mks])

end Go.Proofs.YtilkdeghknjjhaaGreatDoor
