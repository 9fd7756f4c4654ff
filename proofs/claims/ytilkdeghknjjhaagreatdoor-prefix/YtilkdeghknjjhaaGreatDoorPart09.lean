/- The contracts of handed, bare, intact, fill and filled. -/
import Derived.Test.YtilkdeghknjjhaaGreatDoorPart07
import Derived.WalkKit
import Derived.WalkSpells
import Derived.WalkLawsBesides
import Derived.Deep.QuietTactic
import Derived.BigQuiet
namespace Go.Proofs.YtilkdeghknjjhaaGreatDoor
open Go.RowKit M
set_option linter.unusedVariables false

theorem size52 : (Tryz.prog.info? 183).map (·.size) = some 2 := by kernel_rfl
theorem one_cellsE : ∀ (l : List (Int × Int)), ∀ u ∈ cellsE l, u.oneCell' = true
  | [], u, h => absurd h (by simp [cellsE])
  | e :: r, u, h => by
    simp only [cellsE, List.mem_cons] at h
    rcases h with rfl | rfl | h
    · rfl
    · rfl
    · exact one_cellsE r u h
/-- The cells of a slice of entries, wherever it lies. -/
theorem cells_of {w : World} {b off : Nat} {l : List (Int × Int)} (hr : ∀ j, j < l.length → w.cell? ⟨b, off + j * 2, none⟩ = some (.int .i64 (ent l j).1) ∧ w.cell? ⟨b, off + j * 2 + 1, none⟩ = some (.int .i64 (ent l j).2)) :
    ∀ j u, (cellsE l)[j]? = some u → w.cell? ((⟨b, off, none⟩ : Addr).add j) = some u := by
  intro j u hu
  have hj : j < l.length * 2 := by rw [← cellsE_len]; exact (List.getElem?_eq_some_iff.1 hu).1
  rw [Addr.add_lit]
  have h1 := cellsE_at l (j / 2) (by omega)
  have h2 := hr (j / 2) (by omega)
  rcases Nat.mod_two_eq_zero_or_one j with h | h
  · have e : j = j / 2 * 2 := by omega
    rw [e] at hu
    rw [show off + j = off + j / 2 * 2 by omega, h2.1, ← h1.1, hu]
  · have e : j = j / 2 * 2 + 1 := by omega
    rw [e] at hu
    rw [show off + j = off + j / 2 * 2 + 1 by omega, h2.2, ← h1.2, hu]
theorem zeros_made (k : Nat) : (madeCells (Value.agg #[.int .i64 0, .int .i64 0]).cells k).toList = List.replicate k (.int .i64 0) := by
  apply List.ext_getElem?
  intro j
  by_cases hj : j < k
  · rcases Nat.mod_two_eq_zero_or_one j with h | h <;> simp [madeCells, hj, Value.cells, h]
  · simp [madeCells, hj]
/-- What lies in the row of a clock that was handed in. -/
def hArr (l : List (Int × Int)) : List Value := cellsE l ++ [.int .i64 77, .int .i64 0, .int .i64 77, .int .i64 0]
def zArr (l : List (Int × Int)) : List Value := cellsE l ++ [.int .i64 0, .int .i64 0, .int .i64 0, .int .i64 0]
theorem zArr_at (l : List (Int × Int)) (j : Nat) (hj : j < 4) : (zArr l).toArray[l.length * 2 + j]? = some (.int .i64 0) := by
  simp only [List.getElem?_toArray, zArr]
  rw [List.getElem?_append_right (by rw [cellsE_len]; omega), cellsE_len]
  match j, hj with
  | 0, _ => simp
  | 1, _ => simp
  | 2, _ => simp
  | 3, _ => simp
theorem hArr_set (l : List (Int × Int)) : ((zArr l).toArray.setIfInBounds (l.length * 2) (.int .i64 77)).setIfInBounds ((l.length + 1) * 2) (.int .i64 77) = (hArr l).toArray := by
  simp only [List.setIfInBounds_toArray]
  congr 1
  unfold zArr hArr
  rw [List.set_append_right _ _ (by rw [cellsE_len]; omega), cellsE_len, List.set_append_right _ _ (by rw [cellsE_len]; omega), cellsE_len]
  rw [show l.length * 2 - l.length * 2 = 0 by omega, show (l.length + 1) * 2 - l.length * 2 = 2 by omega]
  rfl

/-- The whole row of a slice that was just made. -/
theorem row_of_made {w : World} {B e size g n : Nat} {xs : List Value} (h : w.ownsRow B e size (.slice (some ⟨g, 0, none⟩) n n) n xs) : w.heap[g]? = some (.cells xs.toArray e (0, 0)) := by
  rcases h.2 with ⟨h1, _⟩ | ⟨g2, cap, cur, h1, _, hh, _, _, hs, ht⟩
  · simp at h1
  · simp at h1
    obtain ⟨rfl, rfl⟩ := h1
    rw [List.take_of_length_le (by simp [hs])] at ht
    rw [hh, ← ht]

/-- How a clock lies that was handed in. -/
def Hd (w : World) (v : Value) (l : List (Int × Int)) : Prop :=
  ∃ g, v = .slice (some ⟨g, 0, none⟩) l.length (l.length + 2) ∧ w.heap[g]? = some (.cells (hArr l).toArray 183 (0, 0))
theorem Hd.below {w w' : World} {v : Value} {l : List (Int × Int)} (h : Hd w v l) (hb : Below w.heap.size w w') : Hd w' v l := by
  obtain ⟨g, hv, hh⟩ := h
  exact ⟨g, hv, by rw [hb.block g (Array.getElem?_eq_some_iff.1 hh).1]; exact hh⟩
theorem hArr_at (l : List (Int × Int)) (j : Nat) (hj : j < l.length) : (hArr l).toArray[j * 2]? = some (.int .i64 (ent l j).1) ∧ (hArr l).toArray[j * 2 + 1]? = some (.int .i64 (ent l j).2) := by
  simp only [List.getElem?_toArray, hArr]
  rw [List.getElem?_append_left (by rw [cellsE_len]; omega), List.getElem?_append_left (by rw [cellsE_len]; omega)]
  exact cellsE_at l j hj
theorem hArr_end (l : List (Int × Int)) : (hArr l).toArray[l.length * 2]? = some (.int .i64 77) ∧ (hArr l).toArray[(l.length + 1) * 2]? = some (.int .i64 77) := by
  simp only [List.getElem?_toArray, hArr]
  rw [List.getElem?_append_right (by rw [cellsE_len]; omega), List.getElem?_append_right (by rw [cellsE_len]; omega), cellsE_len,
    show l.length * 2 - l.length * 2 = 0 by omega, show (l.length + 1) * 2 - l.length * 2 = 2 by omega]
  exact ⟨rfl, rfl⟩
theorem Hd.rd {w : World} {v : Value} {l : List (Int × Int)} (h : Hd w v l) (hl : l.length ≤ 8796093022208) : Rd w v l := by
  obtain ⟨g, hv, hh⟩ := h
  refine ⟨_, _, hv, by omega, by omega, fun _ => ⟨g, 0, rfl, fun j hj => ?_⟩⟩
  rw [Nat.zero_add, cell_of_row _ _ _ _ _ _ hh, cell_of_row _ _ _ _ _ _ hh]
  exact hArr_at l j hj

/-- A list of marks. -/
def mks (mark : Int) (n : Nat) : List (Int × Int) := List.replicate n (mark, mark)
theorem cellsE_set : ∀ (l : List (Int × Int)) (k : Nat) (e : Int × Int), k < l.length → ((cellsE l).set (k * 2) (.int .i64 e.1)).set (k * 2 + 1) (.int .i64 e.2) = cellsE (l.set k e)
  | [], k, e, h => absurd h (by simp)
  | x :: r, 0, e, _ => by simp [cellsE]
  | x :: r, k + 1, e, h => by
    have := cellsE_set r k e (by simpa using h)
    rw [show (k + 1) * 2 = k * 2 + 1 + 1 by omega]
    simp [cellsE, this]
/-- Behind k rounds of fill. -/
def fillTo (l : List (Int × Int)) (mark : Int) : Nat → List (Int × Int)
  | 0 => l
  | k + 1 => (fillTo l mark k).set k (mark, mark)
theorem fillTo_len (l : List (Int × Int)) (mark : Int) : ∀ k, (fillTo l mark k).length = l.length
  | 0 => rfl
  | k + 1 => by simp [fillTo, fillTo_len l mark k]
theorem fillTo_at (l : List (Int × Int)) (mark : Int) : ∀ k j, j < l.length → (fillTo l mark k)[j]? = if j < k then some (mark, mark) else l[j]?
  | 0, j, _ => by simp [fillTo]
  | k + 1, j, h => by
    have ih := fillTo_at l mark k j h
    simp only [fillTo, List.getElem?_set]
    by_cases e : k = j
    · subst e
      simp [fillTo_len, h]
    · rw [if_neg e, ih]
      by_cases h2 : j < k
      · rw [if_pos h2, if_pos (by omega)]
      · rw [if_neg h2, if_neg (by omega)]
theorem fillTo_all (l : List (Int × Int)) (mark : Int) : fillTo l mark l.length = mks mark l.length := by
  apply List.ext_getElem?
  intro j
  by_cases h : j < l.length
  · rw [fillTo_at l mark _ j h, if_pos h]; simp [mks, h]
  · rw [List.getElem?_eq_none (by rw [fillTo_len]; omega), List.getElem?_eq_none (by simp [mks]; omega)]

theorem own_stored2 {w : World} {B g n cap : Nat} {l : List (Int × Int)} (h : w.ownsRow B 183 2 (.slice (some ⟨g, 0, none⟩) n cap) n (cellsE l)) (k : Nat) (hk : k < l.length) (a b : Int) :
    ((w.setCell ⟨g, k * 2, none⟩ (.int .i64 a)).setCell ⟨g, k * 2 + 1, none⟩ (.int .i64 b)).ownsRow B 183 2 (.slice (some ⟨g, 0, none⟩) n cap) n (cellsE (l.set k (a, b))) := by
  have h2 := ((h.stored (k * 2) (.int .i64 a)).1.stored (k * 2 + 1) (.int .i64 b)).1
  rw [cellsE_set l k (a, b) hk] at h2
  exact h2

/-- Only one row and what is new has turned. -/
theorem grown_trans {a b c : World} {r s : Option Nat} (h : a.grownBy b r) (k : b.grownBy c s) (hs : s = r ∨ ∀ q, s = some q → a.heap.size ≤ q) : a.grownBy c r :=
  ⟨k.os.trans h.os, k.tape.trans h.tape, k.output.trans h.output, Nat.le_trans h.size k.size, fun i hi hr => by
    have hi2 : i < b.heap.size := Nat.lt_of_lt_of_le hi h.size
    refine (k.block i hi2 (fun e => ?_)).trans (h.block i hi hr)
    rcases hs with rfl | hs
    · exact hr e
    · have := hs i e.symm; omega⟩
theorem grown_set {w a : World} {p : Addr} (h : w.grownBy a (some p.block)) (u : Value) : w.grownBy (a.setCell p u) (some p.block) :=
  ⟨h.os, h.tape, h.output, by simpa [World.setCell] using h.size, fun i hi hr => (heap_setCell_other a p i u (fun e => hr (by rw [e]))).trans (h.block i hi hr)⟩
theorem grown_alloc {w a : World} {r : Option Nat} (h : w.grownBy a r) (o : Obj) : w.grownBy (a.alloc o) r :=
  ⟨h.os, h.tape, h.output, by have := h.size; simp; omega, fun i hi hr => (Below.heap_alloc a o i (Nat.lt_of_lt_of_le hi h.size)).trans (h.block i hi hr)⟩

end Go.Proofs.YtilkdeghknjjhaaGreatDoor
