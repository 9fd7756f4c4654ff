/- sameList. -/
import Derived.Test.YtilkdeghknjjhaaGreatDoorPart16
import Derived.WalkKit
import Derived.WalkSpells
import Derived.WalkLawsBesides
import Derived.Deep.QuietTactic
import Derived.BigQuiet
import Derived.Test.YtilkdeghknjjhaaGreatDoorPart08
import Derived.Test.YtilkdeghknjjhaaGreatDoorPart09
namespace Go.Proofs.YtilkdeghknjjhaaGreatDoor
open Go.RowKit M
set_option linter.unusedVariables false

theorem ext_sb {l m : List Sb} (hl : l.length = m.length) (h : ∀ j, j < l.length → sb l j = sb m j) : l = m := by
  apply List.ext_getElem hl
  intro i h1 h2
  have := h i h1
  rwa [sb_get l i h1, sb_get m i h2] at this
theorem guard57 : Tryz.prog.eqGuardType Tryz.prog.depth 122 = false := by kernel_rfl
theorem held57 : Tryz.prog.stoodInHeld 122 = false := by kernel_rfl
theorem toL_inj (a b : ByteArray) (h : a.toList = b.toList) : a = b := by
  rw [Lib.toList_data, Lib.toList_data] at h
  exact WideShapes.bytes_inj h
def sbEq (x y : Sb) : Bool := x.n == y.n && (x.c == y.c && decide (x.v = y.v))
theorem neq_sb (x y : Sb) (w : World) : (binOp .neq 122 (.agg #[.int .i64 x.n, .int .i64 x.c, .string x.v]) (.agg #[.int .i64 y.n, .int .i64 y.c, .string y.v])).run Tryz.prog w = .ok (.bool (!sbEq x y)) w := by
  rw [run_neq_struct, run_equalIn_agg w 9999 122 _ _ (by kernel_rfl) held57]
  by_cases h : x.n = y.n <;> by_cases h2 : x.c = y.c <;> by_cases h3 : x.v = y.v <;> simp [go_sem, h, h2, h3, Tryz.underlying122, Op.eqFields, sbEq]
  exact fun hh => h3 (toL_inj _ _ hh)
theorem sbEq_iff (x y : Sb) : sbEq x y = true ↔ x = y := by
  obtain ⟨a, b, c⟩ := x
  obtain ⟨d, e, f⟩ := y
  simp [sbEq]

end Go.Proofs.YtilkdeghknjjhaaGreatDoor
/- sameSet. -/
namespace Go.Proofs.YtilkdeghknjjhaaGreatDoor
open Go.RowKit M
set_option linter.unusedVariables false

end Go.Proofs.YtilkdeghknjjhaaGreatDoor
/- owned, own. -/
namespace Go.Proofs.YtilkdeghknjjhaaGreatDoor
open Go.RowKit M
set_option linter.unusedVariables false

/-- A value that bears a mark alone. -/
def mkB (mark : Int) : Sb := ⟨mark, 0, ByteArray.mk #[]⟩
def mkS (mark : Int) (n : Nat) : List Sb := List.replicate n (mkB mark)
theorem mkS_len (mark : Int) (n : Nat) : (mkS mark n).length = n := by simp [mkS]
theorem sb_mkS (mark : Int) (n j : Nat) (h : j < n) : sb (mkS mark n) j = mkB mark := by
  rw [sb_get _ _ (by rw [mkS_len]; exact h)]
  simp [mkS]

/-- Two rows alone, and what is new, have turned. -/
structure Only (w w' : World) (r s : Option Nat) : Prop where
  os : w'.os = w.os
  tape : w'.tape = w.tape
  output : w'.output = w.output
  size : w.heap.size ≤ w'.heap.size
  block : ∀ k, k < w.heap.size → some k ≠ r → some k ≠ s → w'.heap[k]? = w.heap[k]?
theorem Only.below {B : Nat} {a w w' : World} {r s : Option Nat} (h : Below B a w) (hg : Only w w' r s) (hB : B ≤ w.heap.size) (hr : ∀ k, r = some k → B ≤ k) (hs : ∀ k, s = some k → B ≤ k) : Below B a w' :=
  h.trans ⟨hg.os, hg.tape, hg.output, hg.size, fun k hk => hg.block k (by omega) (fun e => by have := hr k e.symm; omega) (fun e => by have := hs k e.symm; omega)⟩
theorem Only.kept {w w' : World} {r s : Option Nat} {B n : Nat} {e : TypeId} {size : Nat} {v : Value} {xs : List Value} (h : w.ownsRow B e size v n xs) (hg : Only w w' r s) (h1 : v.ownBlock = none ∨ v.ownBlock ≠ r) (h2 : v.ownBlock = none ∨ v.ownBlock ≠ s) : w'.ownsRow B e size v n xs := by
  refine ⟨h.1, ?_⟩
  rcases h.2 with hn | ⟨g, cap, cur, rfl, hb, hgg, rest⟩
  · exact .inl hn
  · refine .inr ⟨g, cap, cur, rfl, hb, ?_, rest⟩
    rw [hg.block g (Array.getElem?_eq_some_iff.1 hgg).1 ?_ ?_]
    · exact hgg
    · rcases h1 with h1 | h1
      · simp [Value.ownBlock] at h1
      · simpa [Value.ownBlock] using h1
    · rcases h2 with h2 | h2
      · simp [Value.ownBlock] at h2
      · simpa [Value.ownBlock] using h2
theorem own_apart {w : World} {B C n m : Nat} {e f : TypeId} {s t : Nat} {v u : Value} {xs ys : List Value} (h : w.ownsRow B e s v n xs) (k : w.ownsRow C f t u m ys) (hne : e ≠ f) : v.ownBlock = none ∨ v.ownBlock ≠ u.ownBlock := by
  rcases h.2 with ⟨rfl, _⟩ | ⟨g, cap, cur, rfl, _, hg, _⟩
  · exact .inl rfl
  · refine .inr fun e => ?_
    rcases k.2 with ⟨rfl, _⟩ | ⟨g2, cap2, cur2, rfl, _, hg2, _⟩
    · simp [Value.ownBlock] at e
    · simp [Value.ownBlock] at e
      subst e
      rw [hg] at hg2
      simp at hg2
      exact hne hg2.2
/-- Behind k rounds. -/
def fillS (l : List Sb) (mark : Int) : Nat → List Sb
  | 0 => l
  | k + 1 => (fillS l mark k).set k (mkB mark)
theorem fillS_len (l : List Sb) (mark : Int) : ∀ k, (fillS l mark k).length = l.length
  | 0 => rfl
  | k + 1 => by simp [fillS, fillS_len l mark k]
theorem fillS_at (l : List Sb) (mark : Int) : ∀ k j, j < l.length → (fillS l mark k)[j]? = if j < k then some (mkB mark) else l[j]?
  | 0, j, _ => by simp [fillS]
  | k + 1, j, h => by
    have ih := fillS_at l mark k j h
    simp only [fillS, List.getElem?_set]
    by_cases e : k = j
    · subst e
      simp [fillS_len, h]
    · rw [if_neg e, ih]
      by_cases h2 : j < k
      · rw [if_pos h2, if_pos (by omega)]
      · rw [if_neg h2, if_neg (by omega)]
theorem fillS_all (l : List Sb) (mark : Int) : fillS l mark l.length = mkS mark l.length := by
  apply List.ext_getElem?
  intro j
  by_cases h : j < l.length
  · rw [fillS_at l mark _ j h, if_pos h]; simp [mkS, h]
  · rw [List.getElem?_eq_none (by rw [fillS_len]; omega), List.getElem?_eq_none (by rw [mkS_len]; omega)]
theorem cellsS_set : ∀ (l : List Sb) (k : Nat) (e : Sb), k < l.length → (((cellsS l).set (k * 3) (.int .i64 e.n)).set (k * 3 + 1) (.int .i64 e.c)).set (k * 3 + 2) (.string e.v) = cellsS (l.set k e)
  | [], k, e, h => absurd h (by simp)
  | x :: r, 0, e, _ => by simp [cellsS]
  | x :: r, k + 1, e, h => by
    have := cellsS_set r k e (by simpa using h)
    rw [show (k + 1) * 3 = k * 3 + 1 + 1 + 1 by omega]
    simp [cellsS, this]
theorem own_stored3 {w : World} {B g n cap : Nat} {l : List Sb} (h : w.ownsRow B 122 3 (.slice (some ⟨g, 0, none⟩) n cap) n (cellsS l)) (k : Nat) (hk : k < l.length) (e : Sb) :
    (((w.setCell ⟨g, k * 3, none⟩ (.int .i64 e.n)).setCell ⟨g, k * 3 + 1, none⟩ (.int .i64 e.c)).setCell ⟨g, k * 3 + 2, none⟩ (.string e.v)).ownsRow B 122 3 (.slice (some ⟨g, 0, none⟩) n cap) n (cellsS (l.set k e)) := by
  have h2 := (((h.stored (k * 3) (.int .i64 e.n)).1.stored (k * 3 + 1) (.int .i64 e.c)).1.stored (k * 3 + 2) (.string e.v)).1
  rw [cellsS_set l k e hk] at h2
  exact h2
theorem grown_cell {w a : World} {r : Option Nat} {p : Addr} {u : Value} (h : w.grownBy a r) (hp : p.block < w.heap.size) (hr : some p.block ≠ r) (hu : w.cell? p = some u) : a.cell? p = some u :=
  (World.cell?_of_block (h.block p.block hp hr)).trans hu

end Go.Proofs.YtilkdeghknjjhaaGreatDoor
