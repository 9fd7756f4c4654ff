/- What it is for a slice to read as a list of values with dots; BinarySearchFunc. -/
import Derived.Test.YtkiipmdplpcfeaaV
import Derived.WalkKit
import Derived.WalkSpells
import Derived.WalkLawsBesides
import Derived.Deep.QuietTactic
import Derived.BigQuiet
import Derived.Lib.QuietBelow
namespace Go.Proofs.Ytkiipmdplpcfeaa
open Go.RowKit Go.Sort M
set_option linter.unusedVariables false

/-- A value with its dot. -/
structure Sb where
  n : Int
  c : Int
  v : ByteArray
def Sb.z : Sb := ⟨0, 0, ByteArray.empty⟩
def Sb.val (x : Sb) : Value := .agg #[.int .i64 x.n, .int .i64 x.c, .string x.v]
def sb (l : List Sb) (i : Nat) : Sb := l.getD i Sb.z
theorem sb_get (l : List Sb) (i : Nat) (h : i < l.length) : sb l i = l[i] := by simp [sb, List.getD, List.getElem?_eq_getElem h]

/-- A slice of values that reads as a list. -/
def RdS (w : World) (v : Value) (l : List Sb) : Prop :=
  ∃ a cap, v = .slice a l.length cap ∧ l.length ≤ cap ∧ cap ≤ 9223372036854775807 ∧
    (0 < l.length → ∃ b off, a = some ⟨b, off, none⟩ ∧ ∀ j, j < l.length → w.cell? ⟨b, off + j * 3, none⟩ = some (.int .i64 (sb l j).n) ∧ w.cell? ⟨b, off + j * 3 + 1, none⟩ = some (.int .i64 (sb l j).c) ∧ w.cell? ⟨b, off + j * 3 + 2, none⟩ = some (.string (sb l j).v))
theorem RdS.nil (w : World) : RdS w (.slice none 0 0) [] := ⟨none, 0, rfl, Nat.le_refl _, by omega, fun h => absurd h (by simp)⟩
theorem RdS.below {w w' : World} {v : Value} {l : List Sb} (h : RdS w v l) (hb : Below w.heap.size w w') : RdS w' v l := by
  obtain ⟨a, cap, hv, h1, h2, h3⟩ := h
  refine ⟨a, cap, hv, h1, h2, fun h0 => ?_⟩
  obtain ⟨b, off, ha, hc⟩ := h3 h0
  exact ⟨b, off, ha, fun j hj => ⟨cell_later hb (hc j hj).1, cell_later hb (hc j hj).2.1, cell_later hb (hc j hj).2.2⟩⟩
theorem RdS.shape {w : World} {v : Value} {l : List Sb} (h : RdS w v l) : ∃ a cap, v = .slice a l.length cap := by
  obtain ⟨a, cap, hv, _⟩ := h
  exact ⟨a, cap, hv⟩
/-- The cells of a list of values. -/
def cellsS : List Sb → List Value
  | [] => []
  | e :: r => .int .i64 e.n :: .int .i64 e.c :: .string e.v :: cellsS r
theorem cellsS_len : ∀ l, (cellsS l).length = l.length * 3
  | [] => rfl
  | e :: r => by simp [cellsS, cellsS_len r]; omega
theorem cellsS_at : ∀ (l : List Sb) (j : Nat), j < l.length → (cellsS l)[j * 3]? = some (.int .i64 (sb l j).n) ∧ (cellsS l)[j * 3 + 1]? = some (.int .i64 (sb l j).c) ∧ (cellsS l)[j * 3 + 2]? = some (.string (sb l j).v)
  | [], j, h => absurd h (by simp)
  | e :: r, 0, _ => by simp [cellsS, sb]
  | e :: r, j + 1, h => by
    have := cellsS_at r j (by simpa using h)
    rw [show (j + 1) * 3 = j * 3 + 1 + 1 + 1 by omega]
    simpa [cellsS, sb] using this
theorem cellsS_append : ∀ (l m : List Sb), cellsS (l ++ m) = cellsS l ++ cellsS m
  | [], m => rfl
  | x :: r, m => by simp [cellsS, cellsS_append r m]
theorem cellsS_snoc (l : List Sb) (e : Sb) : cellsS (l ++ [e]) = cellsS l ++ [.int .i64 e.n, .int .i64 e.c, .string e.v] := by rw [cellsS_append]; rfl
theorem one_cellsS : ∀ (l : List Sb), ∀ u ∈ cellsS l, u.oneCell' = true
  | [], u, h => absurd h (by simp [cellsS])
  | e :: r, u, h => by
    simp only [cellsS, List.mem_cons] at h
    rcases h with rfl | rfl | rfl | h
    · rfl
    · rfl
    · rfl
    · exact one_cellsS r u h
theorem RdS.own {w : World} {B n : Nat} {v : Value} {l : List Sb} (h : w.ownsRow B 57 3 v n (cellsS l)) (hn : n = l.length) : RdS w v l := by
  subst hn
  obtain ⟨h1, h2⟩ := h
  rcases h2 with ⟨hv, h0⟩ | ⟨g, cap, cur, hv, hg, hh, hle, hm, hsz, htk⟩
  · have : l = [] := List.eq_nil_of_length_eq_zero h0
    subst this; subst hv; exact RdS.nil w
  · refine ⟨_, cap, hv, hle, by simp only [maxLen] at hm; omega, fun h0 => ⟨g, 0, rfl, fun j hj => ?_⟩⟩
    have hc : ∀ k, k < l.length * 3 → w.cell? ⟨g, 0 + k, none⟩ = (cellsS l)[k]? := by
      intro k hk
      rw [cell_of_row w g (0 + k) cur 57 (0, 0) hh, ← htk, List.getElem?_take, if_pos hk]
      simp
    have := cellsS_at l j hj
    exact ⟨(hc _ (by omega)).trans this.1, by rw [Nat.add_assoc]; exact (hc _ (by omega)).trans this.2.1, by rw [Nat.add_assoc]; exact (hc _ (by omega)).trans this.2.2⟩

/-- How two values lie to one another, by their dots. -/
def cd (x y : Sb) : Int := cmpD x.n x.c y.n y.c

/-- Where a value belongs, as the search tells it. -/
def BSEnd (w : World) (l : List Sb) (x : Sb) (e : Ending) (w' : World) : Prop :=
  ∃ (k : Nat) (f : Bool), e = .returned (.tuple #[.int .i64 k, .bool f]) ∧ k ≤ l.length ∧ (0 < k → cd (sb l (k - 1)) x < 0) ∧ (k < l.length → 0 ≤ cd (sb l k) x) ∧ Below w.heap.size w w'

set_option maxRecDepth 40000 in
set_option maxHeartbeats 1600000 in
theorem BinarySearch_any (v : Value) (l : List Sb) (x : Sb) (w : World) (hrd : RdS w v l) (hl : l.length ≤ 1000) :
    Calls Try.prog 52 #[v, .agg #[.int .i64 x.n, .int .i64 x.c, .string x.v], .func (Fn.func 51) #[] #[]] w fun e w' => BSEnd w l x e w' := by
  obtain ⟨a, cap, rfl, hlc, hc, hA⟩ := hrd
  have hl1 : (l.length : Int) ≤ 1000 := by omega
  clear hlc hc
  go_enter Try.func52, Try.ntmps52
  go_wp2_with fail
  obtain ⟨W, hW, hb, t0, t1, t2⟩ : ∃ W, (w.alloc (.cells #[.int .i64 x.n, .int .i64 x.c, .string x.v] 57)) = W ∧ Below w.heap.size w W ∧
      W.cell? ⟨w.heap.size, 0, none⟩ = some (.int .i64 x.n) ∧ W.cell? ⟨w.heap.size, 1, none⟩ = some (.int .i64 x.c) ∧ W.cell? ⟨w.heap.size, 2, none⟩ = some (.string x.v) :=
    ⟨_, rfl, (Below.refl _ _).alloc (Nat.le_refl _) _, by simp [go_sem], by simp [go_sem], by simp [go_sem]⟩
  rw [hW]
  clear hW
  have HT : Hid (W.cell? ⟨w.heap.size, 0, none⟩ = some (.int .i64 x.n) ∧ W.cell? ⟨w.heap.size, 1, none⟩ = some (.int .i64 x.c) ∧ W.cell? ⟨w.heap.size, 2, none⟩ = some (.string x.v)) := ⟨t0, t1, t2⟩
  have HB : Hid (Below w.heap.size w W) := hb
  have hwsz := hb.size
  clear t0 t1 t2 hb
  go_loopw [9, 10, 11] (fun p q _ wr => ∃ i j : Nat, i ≤ j ∧ j ≤ l.length ∧ p = .int .i64 i ∧ q = .int .i64 j ∧ Hid (0 < i → cd (sb l (i - 1)) x < 0) ∧ Hid (j < l.length → 0 ≤ cd (sb l j) x) ∧ Below W.heap.size W wr)
    (fun p q _ _ => (intOf q).toNat - (intOf p).toNat)
  case atStart => exact ⟨0, l.length, by omega, by omega, rfl, rfl, fun h => by omega, fun h => by omega, Below.refl _ _⟩
  case round =>
    obtain ⟨i, j, hij, hjl, rfl, rfl, hi, hj, hb⟩ := hrel
    have hsz := hb.size
    by_cases hlt : i < j
    · obtain ⟨b, off, rfl, hr⟩ := hA (by omega)
      have hhl : (i + j) / 2 < l.length := by omega
      have q0 : (0 : Int) ≤ ((i : Int) + (j : Int)) / 2 := by omega
      have q1 : ((i : Int) + (j : Int)) / 2 < (l.length : Int) := by omega
      have q2 : (i : Int) + (j : Int) ≤ 2000 := by omega
      have qh : (((i : Int) + (j : Int)) / 2).toNat = (i + j) / 2 := by omega
      have e0 := cell_regrown (cell_later hb (cell_later HB.out (hr ((i + j) / 2) hhl).1))
      have e1 := cell_regrown (cell_later hb (cell_later HB.out (hr ((i + j) / 2) hhl).2.1))
      have e2 := cell_regrown (cell_later hb (cell_later HB.out (hr ((i + j) / 2) hhl).2.2))
      have f0 := cell_regrown (cell_later hb HT.out.1)
      have f1 := cell_regrown (cell_later hb HT.out.2.1)
      have f2 := cell_regrown (cell_later hb HT.out.2.2)
      have HC : Hid (∀ d os, Calls Try.prog 51 #[.agg #[.int .i64 (sb l ((i + j) / 2)).n, .int .i64 (sb l ((i + j) / 2)).c, .string (sb l ((i + j) / 2)).v], .agg #[.int .i64 x.n, .int .i64 x.c, .string x.v]] (grow (redrawn wr d) os) fun e w'' => e = .returned (.int .i64 (cd (sb l ((i + j) / 2)) x)) ∧ ∃ p : Regrown, w'' = grow (redrawn wr p.d) p.os) :=
        fun d os => Calls.regrown_of (compareDots_any _ _ _ _ _ _ _)
      obtain ⟨r, hr2⟩ : ∃ r, cd (sb l ((i + j) / 2)) x = r := ⟨_, rfl⟩
      have HR : Hid (cd (sb l ((i + j) / 2)) x = r) := hr2
      rw [hr2] at HC
      clear hA hr hr2
      go_wp2_with fail
      refine wp_region_quiet_below (by kernel_rfl) (by kernel_rfl) ?_
      repeat (quiet_step (first | (go_at_call 51; exact HC.out _ _)))
      refine wpQuiet_nil ?_
      intro _ hw'
      obtain ⟨⟨dq, osq⟩, hw''⟩ := hw'
      subst hw''
      by_cases hneg : r < 0
      · go_wp2
        go_roundw
        case rel => exact ⟨(i + j) / 2 + 1, j, by omega, hjl, by congr 1, rfl, fun _ => by rw [Nat.add_sub_cancel, HR.out]; exact hneg, hj, hb.trans ((below_regrown wr dq osq).mono hsz)⟩
        case measure => simp [intOf]; omega
      · go_wp2
        go_roundw
        case rel => exact ⟨i, (i + j) / 2, by omega, by omega, rfl, by congr 1, hi, fun _ => by rw [HR.out]; omega, hb.trans ((below_regrown wr dq osq).mono hsz)⟩
        case measure => simp [intOf]; omega
    · have hije : i = j := by omega
      subst hije
      have hbw : Below w.heap.size w wr := HB.out.trans (hb.mono hwsz)
      by_cases hin : i < l.length
      · obtain ⟨b, off, rfl, hr⟩ := hA (by omega)
        have q1 : (i : Int) < (l.length : Int) := by omega
        have e0 := cell_regrown (cell_later hb (cell_later HB.out (hr i hin).1))
        have e1 := cell_regrown (cell_later hb (cell_later HB.out (hr i hin).2.1))
        have e2 := cell_regrown (cell_later hb (cell_later HB.out (hr i hin).2.2))
        have f0 := cell_regrown (cell_later hb HT.out.1)
        have f1 := cell_regrown (cell_later hb HT.out.2.1)
        have f2 := cell_regrown (cell_later hb HT.out.2.2)
        have HC : Hid (∀ d os, Calls Try.prog 51 #[.agg #[.int .i64 (sb l i).n, .int .i64 (sb l i).c, .string (sb l i).v], .agg #[.int .i64 x.n, .int .i64 x.c, .string x.v]] (grow (redrawn wr d) os) fun e w'' => e = .returned (.int .i64 (cd (sb l i) x)) ∧ ∃ p : Regrown, w'' = grow (redrawn wr p.d) p.os) :=
          fun d os => Calls.regrown_of (compareDots_any _ _ _ _ _ _ _)
        obtain ⟨r, hr2⟩ : ∃ r, cd (sb l i) x = r := ⟨_, rfl⟩
        rw [hr2] at HC
        clear hA hr hr2
        have gd : decide ((i : Int) < (l.length : Int)) = true := by simp; omega
        go_wp2_with fail
        refine wp_region_quiet_below (by kernel_rfl) (by kernel_rfl) ?_
        repeat (quiet_step (first | (go_at_call 51; exact HC.out _ _)))
        refine wpQuiet_nil ?_
        intro _ hw'
        obtain ⟨⟨dq, osq⟩, hw''⟩ := hw'
        subst hw''
        go_wp2
        go_ret2
        exact ⟨i, _, rfl, hjl, hi.out, hj.out, hbw.trans ((below_regrown wr dq osq).mono hbw.size)⟩
      · have gd : decide ((i : Int) < (l.length : Int)) = false := by simp; omega
        clear hA
        go_wp2_with fail
        go_quiet (fail)
        go_wp2
        go_ret2
        exact ⟨i, _, rfl, hjl, hi.out, hj.out, below_drewN hbw _⟩
end Go.Proofs.Ytkiipmdplpcfeaa
