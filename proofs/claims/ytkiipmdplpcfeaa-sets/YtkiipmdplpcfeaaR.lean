/- The contracts of handed, bare, intact, fill and filled. -/
import Derived.Test.YtkiipmdplpcfeaaQ
import Derived.WalkKit
import Derived.WalkSpells
import Derived.WalkLawsBesides
import Derived.Deep.QuietTactic
import Derived.BigQuiet
namespace Go.Proofs.Ytkiipmdplpcfeaa
open Go.RowKit M
set_option linter.unusedVariables false

theorem size52 : (Try.prog.info? 52).map (·.size) = some 2 := by kernel_rfl
theorem one_cellsE : ∀ (l : List (Int × Int)), ∀ u ∈ cellsE l, u.oneCell' = true
  | [], u, h => absurd h (by simp [cellsE])
  | e :: r, u, h => by
    simp only [cellsE, List.mem_cons] at h
    rcases h with rfl | rfl | h
    · rfl
    · rfl
    · exact one_cellsE r u h
/-- The cells of a slice of entries, wherever it lies. -/
theorem cells_of {w : World} {b off : Nat} {l : List (Int × Int)} (hr : ∀ j, j < l.length → w.cell? ⟨b, off + j * 2, none⟩ = some (.int .i64 (ent l j).1) ∧ w.cell? ⟨b, off + j * 2 + 1, none⟩ = some (.int .i64 (ent l j).2)) :
    ∀ j u, (cellsE l)[j]? = some u → w.cell? ((⟨b, off, none⟩ : Addr).add j) = some u := by
  intro j u hu
  have hj : j < l.length * 2 := by rw [← cellsE_len]; exact (List.getElem?_eq_some_iff.1 hu).1
  rw [Addr.add_lit]
  have h1 := cellsE_at l (j / 2) (by omega)
  have h2 := hr (j / 2) (by omega)
  rcases Nat.mod_two_eq_zero_or_one j with h | h
  · have e : j = j / 2 * 2 := by omega
    rw [e] at hu
    rw [show off + j = off + j / 2 * 2 by omega, h2.1, ← h1.1, hu]
  · have e : j = j / 2 * 2 + 1 := by omega
    rw [e] at hu
    rw [show off + j = off + j / 2 * 2 + 1 by omega, h2.2, ← h1.2, hu]
theorem zeros_made (k : Nat) : (madeCells (Value.agg #[.int .i64 0, .int .i64 0]).cells k).toList = List.replicate k (.int .i64 0) := by
  apply List.ext_getElem?
  intro j
  by_cases hj : j < k
  · rcases Nat.mod_two_eq_zero_or_one j with h | h <;> simp [madeCells, hj, Value.cells, h]
  · simp [madeCells, hj]
/-- What lies in the row of a clock that was handed in. -/
def hArr (l : List (Int × Int)) : List Value := cellsE l ++ [.int .i64 77, .int .i64 0, .int .i64 77, .int .i64 0]
def zArr (l : List (Int × Int)) : List Value := cellsE l ++ [.int .i64 0, .int .i64 0, .int .i64 0, .int .i64 0]
theorem zArr_at (l : List (Int × Int)) (j : Nat) (hj : j < 4) : (zArr l).toArray[l.length * 2 + j]? = some (.int .i64 0) := by
  simp only [List.getElem?_toArray, zArr]
  rw [List.getElem?_append_right (by rw [cellsE_len]; omega), cellsE_len]
  match j, hj with
  | 0, _ => simp
  | 1, _ => simp
  | 2, _ => simp
  | 3, _ => simp
theorem hArr_set (l : List (Int × Int)) : ((zArr l).toArray.setIfInBounds (l.length * 2) (.int .i64 77)).setIfInBounds ((l.length + 1) * 2) (.int .i64 77) = (hArr l).toArray := by
  simp only [List.setIfInBounds_toArray]
  congr 1
  unfold zArr hArr
  rw [List.set_append_right _ _ (by rw [cellsE_len]; omega), cellsE_len, List.set_append_right _ _ (by rw [cellsE_len]; omega), cellsE_len]
  rw [show l.length * 2 - l.length * 2 = 0 by omega, show (l.length + 1) * 2 - l.length * 2 = 2 by omega]
  rfl

/-- The whole row of a slice that was just made. -/
theorem row_of_made {w : World} {B e size g n : Nat} {xs : List Value} (h : w.ownsRow B e size (.slice (some ⟨g, 0, none⟩) n n) n xs) : w.heap[g]? = some (.cells xs.toArray e (0, 0)) := by
  rcases h.2 with ⟨h1, _⟩ | ⟨g2, cap, cur, h1, _, hh, _, _, hs, ht⟩
  · simp at h1
  · simp at h1
    obtain ⟨rfl, rfl⟩ := h1
    rw [List.take_of_length_le (by simp [hs])] at ht
    rw [hh, ← ht]

set_option maxRecDepth 20000 in
set_option maxHeartbeats 400000 in
theorem handed_any (v : Value) (l : List (Int × Int)) (w : World) (hrd : Rd w v l) (hbig : l.length ≤ 8796093022208) :
    Calls Try.prog 8 #[v] w fun e w' => ∃ g, e = .returned (.slice (some ⟨g, 0, none⟩) l.length (l.length + 2)) ∧ w.heap.size ≤ g ∧ w'.heap[g]? = some (.cells (hArr l).toArray 52 (0, 0)) ∧ Below w.heap.size w w' := by
  obtain ⟨i0, hi, hz0, hz1, hz2⟩ := info_parts Try.info52
  obtain ⟨a, cap, rfl, hlc, hc, hA⟩ := hrd
  clear hlc hc
  go_enter Try.func8, Try.ntmps8
  go_wp2_with (first
    | (at_make; refine wpList_make_full _ rfl _ _ 22 rfl w.heap.size 52 i0 (.agg #[.int .i64 0, .int .i64 0]) 2 Try.underlying22 hi hz0 hz1 .i64 .i64 _ _ (l.length + 2) rfl rfl (by omega) (by omega) (by rw [hz2]; omega) (by unfold maxLen; omega) (Nat.le_refl _) ?_))
  intro w1 hown hgrow
  have hb1 : Below w.heap.size w w1 := (Below.refl _ _).grown hgrow (Nat.le_refl _) (fun k h => by cases h)
  have hrow := row_of_made hown
  have hzz : (madeCells #[Value.int .i64 0, Value.int .i64 0] ((l.length + 2) * 2)).toList = List.replicate ((l.length + 2) * 2) (.int .i64 0) := zeros_made _
  rw [hzz] at hrow
  have hcopy : ∀ ad, a = some ad → ∀ j v, (cellsE l)[j]? = some v → w1.cell? (ad.add j) = some v := by
    intro ad had j v hv
    have hl0 : 0 < l.length := by
      have := (List.getElem?_eq_some_iff.1 hv).1
      rw [cellsE_len] at this; omega
    obtain ⟨b, off, h1, hr⟩ := hA hl0
    rw [h1] at had
    obtain rfl := Option.some.inj had
    exact cells_of (fun j hj => ⟨cell_later hb1 (hr j hj).1, cell_later hb1 (hr j hj).2⟩) j v hv
  have hnone : a = none → l.length = 0 := by
    intro h
    by_cases h0 : 0 < l.length
    · obtain ⟨b, off, h1, _⟩ := hA h0
      rw [h] at h1; cases h1
    · omega
  have hfin : cellsE l ++ List.replicate ((l.length + 2) * 2 - (cellsE l).length) (Value.int .i64 0) = zArr l := by
    unfold zArr
    rw [cellsE_len, show (l.length + 2) * 2 - l.length * 2 = 4 by omega]
    rfl
  have hfit : (cellsE l).length ≤ (List.replicate ((l.length + 2) * 2) (Value.int .i64 0)).toArray.size := by
    rw [cellsE_len]; simp; omega
  have HC : Hid (∀ ad, a = some ad → ∀ j v, (cellsE l)[j]? = some v → w1.cell? (ad.add j) = some v) := hcopy
  have HF : Hid (cellsE l ++ List.replicate ((l.length + 2) * 2 - (cellsE l).length) (Value.int .i64 0) = zArr l) := hfin
  have HNone : Hid (a = none → l.length = 0) := hnone
  have HR : Hid (w1.heap[w.heap.size]? = some (.cells (List.replicate ((l.length + 2) * 2) (Value.int .i64 0)).toArray 52 (0, 0))) := hrow
  clear hA hcopy hnone hrow hzz hown hfin hz0 hz1 hz2 hi hgrow
  go_wp2_with (first
    | (refine wpList_copy_sz rfl _ _ 22 22 rfl 52 2 Try.underlying22 size52 w.heap.size (l.length + 2) (l.length + 2) a l.length cap rfl rfl _ 52 HR.out (by omega) (cellsE l) (cellsE_len l) HNone.out HC.out hfit (one_cellsE l) w.heap.size w hb1 (Nat.le_refl _) ?_))
  intro w2 hrow hb2 hsz
  rw [HF.out] at hrow
  have HR2 : Hid (w2.heap[w.heap.size]? = some (.cells (zArr l).toArray 52 (0, 0))) := hrow
  have q1 : w2.cell? ⟨w.heap.size, l.length * 2, none⟩ = some (.int .i64 0) := by rw [cell_of_row _ _ _ _ _ _ hrow]; simpa using zArr_at l 0 (by omega)
  have q2 : w2.cell? ⟨w.heap.size, (l.length + 1) * 2, none⟩ = some (.int .i64 0) := by
    rw [cell_of_row _ _ _ _ _ _ hrow, show (l.length + 1) * 2 = l.length * 2 + 2 by omega]; exact zArr_at l 2 (by omega)
  have f1 : w2.frozen? ⟨w.heap.size, l.length * 2, none⟩ = false := frozen_of_row _ _ _ _ _ hrow
  have f2 : w2.frozen? ⟨w.heap.size, (l.length + 1) * 2, none⟩ = false := frozen_of_row _ _ _ _ _ hrow
  clear hrow hsz HF HR HC HNone hfit hb1
  go_wp2
  go_ret
  have hrow := HR2.out
  refine ⟨w.heap.size, rfl, Nat.le_refl _, ?_, ?_⟩
  · rw [heap_setCell_same _ _ _ _ _ _ (heap_setCell_same _ _ _ _ _ _ hrow), hArr_set]
  · exact (hb2.setCell (Nat.le_refl _) _).setCell (Nat.le_refl _) _

set_option maxRecDepth 20000 in
set_option maxHeartbeats 400000 in
theorem bare_any (a : Option Addr) (n c : Nat) (a' : Option Addr) (n' c' : Nat) (w : World) :
    Calls Try.prog 9 #[.slice a n c, .slice a' n' c'] w fun e w' => (e = .returned (.slice a n c) ∨ (a' = none ∧ e = .returned (.slice none 0 0))) ∧ w' = w := by
  have k := fun w => Lib.run_eql_slice_nil (P := Try.prog) w 22 52 a' n' c' 0 0 Try.underlying22
  cases a' with
  | none =>
    go_enter Try.func9, Try.ntmps9
    go_wp2
    go_ret
    exact ⟨.inr ⟨by trivial, rfl⟩, rfl⟩
  | some x =>
    go_enter Try.func9, Try.ntmps9
    go_wp2
    go_ret
    exact ⟨.inl rfl, rfl⟩

/-- How a clock lies that was handed in. -/
def Hd (w : World) (v : Value) (l : List (Int × Int)) : Prop :=
  ∃ g, v = .slice (some ⟨g, 0, none⟩) l.length (l.length + 2) ∧ w.heap[g]? = some (.cells (hArr l).toArray 52 (0, 0))
theorem Hd.below {w w' : World} {v : Value} {l : List (Int × Int)} (h : Hd w v l) (hb : Below w.heap.size w w') : Hd w' v l := by
  obtain ⟨g, hv, hh⟩ := h
  exact ⟨g, hv, by rw [hb.block g (Array.getElem?_eq_some_iff.1 hh).1]; exact hh⟩
theorem hArr_at (l : List (Int × Int)) (j : Nat) (hj : j < l.length) : (hArr l).toArray[j * 2]? = some (.int .i64 (ent l j).1) ∧ (hArr l).toArray[j * 2 + 1]? = some (.int .i64 (ent l j).2) := by
  simp only [List.getElem?_toArray, hArr]
  rw [List.getElem?_append_left (by rw [cellsE_len]; omega), List.getElem?_append_left (by rw [cellsE_len]; omega)]
  exact cellsE_at l j hj
theorem hArr_end (l : List (Int × Int)) : (hArr l).toArray[l.length * 2]? = some (.int .i64 77) ∧ (hArr l).toArray[(l.length + 1) * 2]? = some (.int .i64 77) := by
  simp only [List.getElem?_toArray, hArr]
  rw [List.getElem?_append_right (by rw [cellsE_len]; omega), List.getElem?_append_right (by rw [cellsE_len]; omega), cellsE_len,
    show l.length * 2 - l.length * 2 = 0 by omega, show (l.length + 1) * 2 - l.length * 2 = 2 by omega]
  exact ⟨rfl, rfl⟩
theorem Hd.rd {w : World} {v : Value} {l : List (Int × Int)} (h : Hd w v l) (hl : l.length ≤ 8796093022208) : Rd w v l := by
  obtain ⟨g, hv, hh⟩ := h
  refine ⟨_, _, hv, by omega, by omega, fun _ => ⟨g, 0, rfl, fun j hj => ?_⟩⟩
  rw [Nat.zero_add, cell_of_row _ _ _ _ _ _ hh, cell_of_row _ _ _ _ _ _ hh]
  exact hArr_at l j hj

set_option maxRecDepth 20000 in
set_option maxHeartbeats 400000 in
theorem intact_any (v u : Value) (l : List (Int × Int)) (w : World) (hv : Hd w v l) (hu : Rd w u l) (hl : l.length ≤ 8796093022208) :
    Calls Try.prog 20 #[v, u] w fun e w' => e = .returned (.bool true) ∧ Below w.heap.size w w' := by
  have hrv := hv.rd hl
  obtain ⟨g, rfl, hh⟩ := hv
  obtain ⟨a, ca, rfl⟩ := hu.shape
  have hrs : Rd w (.slice (some ⟨g, 0, none⟩) l.length (l.length + 2)) l := hrv
  have HH : Hid (w.heap[g]? = some (.cells (hArr l).toArray 52 (0, 0))) := hh
  clear hh
  go_enter Try.func20, Try.ntmps20
  go_wp2_with fail
  refine (sameClock12_any _ _ l l w hrs hu).mono ?_
  rintro e w1 ⟨r, rfl, hr, hb⟩
  obtain rfl : r = true := hr.2 rfl
  have hh1 := (hb.block g (Array.getElem?_eq_some_iff.1 HH.out).1).trans HH.out
  have q1 : w1.cell? ⟨g, l.length * 2, none⟩ = some (.int .i64 77) := by rw [cell_of_row _ _ _ _ _ _ hh1]; exact (hArr_end l).1
  have q2 : w1.cell? ⟨g, (l.length + 1) * 2, none⟩ = some (.int .i64 77) := by rw [cell_of_row _ _ _ _ _ _ hh1]; exact (hArr_end l).2
  clear hr hrs hrv hh1 hu
  go_wp2
  go_ret
  exact ⟨rfl, hb⟩

/-- A list of marks. -/
def mks (mark : Int) (n : Nat) : List (Int × Int) := List.replicate n (mark, mark)
theorem cellsE_set : ∀ (l : List (Int × Int)) (k : Nat) (e : Int × Int), k < l.length → ((cellsE l).set (k * 2) (.int .i64 e.1)).set (k * 2 + 1) (.int .i64 e.2) = cellsE (l.set k e)
  | [], k, e, h => absurd h (by simp)
  | x :: r, 0, e, _ => by simp [cellsE]
  | x :: r, k + 1, e, h => by
    have := cellsE_set r k e (by simpa using h)
    rw [show (k + 1) * 2 = k * 2 + 1 + 1 by omega]
    simp [cellsE, this]
/-- Behind k rounds of fill. -/
def fillTo (l : List (Int × Int)) (mark : Int) : Nat → List (Int × Int)
  | 0 => l
  | k + 1 => (fillTo l mark k).set k (mark, mark)
theorem fillTo_len (l : List (Int × Int)) (mark : Int) : ∀ k, (fillTo l mark k).length = l.length
  | 0 => rfl
  | k + 1 => by simp [fillTo, fillTo_len l mark k]
theorem fillTo_at (l : List (Int × Int)) (mark : Int) : ∀ k j, j < l.length → (fillTo l mark k)[j]? = if j < k then some (mark, mark) else l[j]?
  | 0, j, _ => by simp [fillTo]
  | k + 1, j, h => by
    have ih := fillTo_at l mark k j h
    simp only [fillTo, List.getElem?_set]
    by_cases e : k = j
    · subst e
      simp [fillTo_len, h]
    · rw [if_neg e, ih]
      by_cases h2 : j < k
      · rw [if_pos h2, if_pos (by omega)]
      · rw [if_neg h2, if_neg (by omega)]
theorem fillTo_all (l : List (Int × Int)) (mark : Int) : fillTo l mark l.length = mks mark l.length := by
  apply List.ext_getElem?
  intro j
  by_cases h : j < l.length
  · rw [fillTo_at l mark _ j h, if_pos h]; simp [mks, h]
  · rw [List.getElem?_eq_none (by rw [fillTo_len]; omega), List.getElem?_eq_none (by simp [mks]; omega)]

theorem own_stored2 {w : World} {B g n cap : Nat} {l : List (Int × Int)} (h : w.ownsRow B 52 2 (.slice (some ⟨g, 0, none⟩) n cap) n (cellsE l)) (k : Nat) (hk : k < l.length) (a b : Int) :
    ((w.setCell ⟨g, k * 2, none⟩ (.int .i64 a)).setCell ⟨g, k * 2 + 1, none⟩ (.int .i64 b)).ownsRow B 52 2 (.slice (some ⟨g, 0, none⟩) n cap) n (cellsE (l.set k (a, b))) := by
  have h2 := ((h.stored (k * 2) (.int .i64 a)).1.stored (k * 2 + 1) (.int .i64 b)).1
  rw [cellsE_set l k (a, b) hk] at h2
  exact h2

/-- Only one row and what is new has turned. -/
theorem grown_trans {a b c : World} {r s : Option Nat} (h : a.grownBy b r) (k : b.grownBy c s) (hs : s = r ∨ ∀ q, s = some q → a.heap.size ≤ q) : a.grownBy c r :=
  ⟨k.os.trans h.os, k.tape.trans h.tape, k.output.trans h.output, Nat.le_trans h.size k.size, fun i hi hr => by
    have hi2 : i < b.heap.size := Nat.lt_of_lt_of_le hi h.size
    refine (k.block i hi2 (fun e => ?_)).trans (h.block i hi hr)
    rcases hs with rfl | hs
    · exact hr e
    · have := hs i e.symm; omega⟩
theorem grown_set {w a : World} {p : Addr} (h : w.grownBy a (some p.block)) (u : Value) : w.grownBy (a.setCell p u) (some p.block) :=
  ⟨h.os, h.tape, h.output, by simpa [World.setCell] using h.size, fun i hi hr => (heap_setCell_other a p i u (fun e => hr (by rw [e]))).trans (h.block i hi hr)⟩
theorem grown_alloc {w a : World} {r : Option Nat} (h : w.grownBy a r) (o : Obj) : w.grownBy (a.alloc o) r :=
  ⟨h.os, h.tape, h.output, by have := h.size; simp; omega, fun i hi hr => (Below.heap_alloc a o i (Nat.lt_of_lt_of_le hi h.size)).trans (h.block i hi hr)⟩

set_option maxRecDepth 20000 in
set_option maxHeartbeats 400000 in
theorem fill_any (B : Nat) (v : Value) (l : List (Int × Int)) (mark : Int) (w : World) (hown : w.ownsRow B 52 2 v l.length (cellsE l)) (hl : l.length ≤ 1000) (hB : B ≤ w.heap.size) :
    Calls Try.prog 13 #[v, .int .i64 mark] w fun e w' => e = .returned (.tuple #[]) ∧ w'.ownsRow B 52 2 v l.length (cellsE (mks mark l.length)) ∧ w.grownBy w' v.ownBlock := by
  obtain ⟨i0, hi, hz0, hz1, hz2⟩ := info_parts Try.info52
  have hvl : ∃ a cap, v = .slice a l.length cap ∧ (0 < l.length → ∃ g, a = some ⟨g, 0, none⟩) := by
    rcases hown.2 with ⟨h1, h2⟩ | ⟨g, cap, cur, h1, _⟩
    · exact ⟨none, 0, by rw [h1, h2], fun h => by omega⟩
    · exact ⟨_, _, h1, fun _ => ⟨g, rfl⟩⟩
  obtain ⟨a, cap, rfl, hg⟩ := hvl
  have hl1 : (l.length : Int) ≤ 1000 := by omega
  go_enter Try.func13, Try.ntmps13
  go_wp2
  go_loopw [4] (fun i wr => ∃ k : Nat, k ≤ l.length ∧ i = .int .i64 k ∧ wr.ownsRow B 52 2 (.slice a l.length cap) l.length (cellsE (fillTo l mark k)) ∧ w.grownBy wr (Value.slice a l.length cap).ownBlock)
    (fun i _ => l.length - (intOf i).toNat)
  case atStart => exact ⟨0, Nat.zero_le _, rfl, hown, World.grownBy.refl _ _⟩
  case round =>
    obtain ⟨k, hk, rfl, ho, hgr⟩ := hrel
    by_cases hlt : k < l.length
    · obtain ⟨g, rfl⟩ := hg (by omega)
      have c1 : wr.cell? ⟨g, k * 2, none⟩ = some (.int .i64 (ent (fillTo l mark k) k).1) := by
        rw [ho.cellAt (k * 2) (by omega)]; exact (cellsE_at _ k (by rw [fillTo_len]; exact hlt)).1
      have c2 : wr.cell? ⟨g, k * 2 + 1, none⟩ = some (.int .i64 (ent (fillTo l mark k) k).2) := by
        rw [ho.cellAt (k * 2 + 1) (by omega)]; exact (cellsE_at _ k (by rw [fillTo_len]; exact hlt)).2
      have f1 : wr.frozen? ⟨g, k * 2, none⟩ = false := ho.frozenAt _
      have f2 : wr.frozen? ⟨g, k * 2 + 1, none⟩ = false := ho.frozenAt _
      have HO := own_stored2 ho k (by rw [fillTo_len]; exact hlt) mark mark
      have HG := grown_set (grown_set (p := ⟨g, k * 2, none⟩) hgr (.int .i64 mark)) (p := ⟨g, k * 2 + 1, none⟩) (.int .i64 mark)
      clear hg hown
      go_wp2
      go_roundw
      case rel => exact ⟨k + 1, by omega, by go_num, HO, HG⟩
      case measure => simp [intOf]; omega
    · obtain rfl : k = l.length := by omega
      rw [fillTo_all] at ho
      clear hown hg
      go_wp2_with fail
      go_loopw [0, 5] (fun v2 i wr => ∃ (k : Nat) (ys : List Value), k ≤ 3 ∧ i = .int .i64 k ∧ wr.ownsRow B 52 2 v2 (l.length + k) (cellsE (mks mark l.length) ++ ys) ∧
          wr.ownsRow B 52 2 (.slice a l.length cap) l.length (cellsE (mks mark l.length)) ∧ w.grownBy wr (Value.slice a l.length cap).ownBlock ∧
          (v2.ownBlock = (Value.slice a l.length cap).ownBlock ∨ ∀ q, v2.ownBlock = some q → w.heap.size ≤ q))
        (fun _ i _ => 3 - (intOf i).toNat)
      case atStart => exact ⟨0, [], by omega, rfl, by simpa using ho, ho, hgr, .inl rfl⟩
      case round =>
        obtain ⟨k, ys, hk, rfl, ho2, ho1, hgr2, hbl⟩ := hrel
        have hsz2 := hgr2.size
        by_cases hlt : k < 3
        · have HBL : Hid (u0.ownBlock = (Value.slice a l.length cap).ownBlock ∨ ∀ q, u0.ownBlock = some q → w.heap.size ≤ q) := hbl
          clear hbl
          go_wp2_with (first
            | (at_builtin; refine wpList_append_keeps rfl _ _ 22 rfl B 52 i0 (.agg #[.int .i64 0, .int .i64 0]) 2 16 Try.underlying22 hi hz0 hz1 hz2 rfl (by decide) _ _ _ rfl (ho2.alloc _) ⟨wr.heap.size, 0, none⟩ 1 1 [.int .i64 mark, .int .i64 mark] rfl rfl (by decide) ?c1 ?c2 ?c3 ?c4 ?c5 ?_))
          case c1 => exact cell_two_new _ _ _ _
          case c2 => intro u hu; simp at hu; subst hu; rfl
          case c3 => omega
          case c4 => omega
          case c5 => simp; omega
          · intro v3 w2 h2 h3 h4 h5
            have hp := own_prefix (ho1.alloc _) (ho2.alloc _) h3 (by omega) h4
            have hgg := grown_trans (grown_alloc hgr2 _) h4 HBL.out
            have HB3 : Hid (v3.ownBlock = (Value.slice a l.length cap).ownBlock ∨ ∀ q, v3.ownBlock = some q → w.heap.size ≤ q) := by
              rcases h5 with h5 | h5
              · rw [h5]; exact HBL.out
              · exact .inr fun q hq => Nat.le_trans hsz2 (Nat.le_trans (Nat.le_succ _) (h5 q hq))
            clear h3 h4 h5 HBL
            go_wp2
            go_roundw
            case rel => exact ⟨k + 1, ys ++ [.int .i64 mark, .int .i64 mark], by omega, by go_num, by rw [← List.append_assoc, ← Nat.add_assoc]; simpa using h2, hp, hgg, HB3.out⟩
            case measure => simp [intOf]; omega
        · go_wp2
          go_end0
          exact ⟨rfl, ho1, hgr2⟩

set_option maxRecDepth 20000 in
set_option maxHeartbeats 400000 in
theorem filled_any (v : Value) (n : Nat) (mark : Int) (w : World) (hrd : Rd w v (mks mark n)) :
    Calls Try.prog 21 #[v, .int .i64 mark] w fun e w' => e = .returned (.bool true) ∧ Below w.heap.size w w' := by
  have hln : (mks mark n).length = n := by simp [mks]
  have hent : ∀ j, j < n → ent (mks mark n) j = (mark, mark) := by
    intro j hj
    rw [ent_get _ _ (by rw [hln]; exact hj)]
    simp [mks]
  obtain ⟨a, cap, rfl, hlc, hc, hA⟩ := hrd
  rw [hln] at hlc hA
  rw [hln]
  have hn1 : (n : Int) ≤ 9223372036854775807 := by omega
  clear hlc hc hln
  go_enter Try.func21, Try.ntmps21
  go_wp2
  go_loopw [5] (fun i wr => ∃ k : Nat, k ≤ n ∧ i = .int .i64 k ∧ Below w.heap.size w wr) (fun i _ => n - (intOf i).toNat)
  case atStart => exact ⟨0, Nat.zero_le _, rfl, Below.refl _ _⟩
  case round =>
    obtain ⟨k, hk, rfl, hb⟩ := hrel
    by_cases hlt : k < n
    · obtain ⟨b, off, rfl, hr⟩ := hA (by omega)
      have hr1 := hr k hlt
      rw [hent k hlt] at hr1
      have c1 : wr.cell? ⟨b, off + k * 2, none⟩ = some (.int .i64 mark) := cell_later hb hr1.1
      have c2 : wr.cell? ⟨b, off + k * 2 + 1, none⟩ = some (.int .i64 mark) := cell_later hb hr1.2
      have hg52 := guard52
      have hn52 := neq_ent mark mark mark mark
      clear hA hr hr1 hent
      go_wp2
      go_roundw
      case rel => exact ⟨k + 1, by omega, by go_num, hb⟩
      case measure => simp [intOf]; omega
    · clear hent hA
      go_wp2
      go_ret
      exact ⟨rfl, hb⟩
end Go.Proofs.Ytkiipmdplpcfeaa
