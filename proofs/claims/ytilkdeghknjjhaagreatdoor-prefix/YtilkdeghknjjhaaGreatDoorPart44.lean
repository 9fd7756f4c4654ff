/- The disk: Fail, Die; pick. -/
import Derived.Test.YtilkdeghknjjhaaGreatDoorPart37
import Derived.Test.YtilkdeghknjjhaaGreatDoorPart24
namespace Go.Proofs.YtilkdeghknjjhaaGreatDoor
open Go.RowKit M
set_option linter.unusedVariables false

/-- The greater of a number and nought. -/
def up0 (b : Int) : Int := if b < 0 then 0 else b
def Dk.fail (D : Dk) (b : Int) : Dk := { D with wait := up0 b }
def Dk.die (D : Dk) (b : Int) : Dk := { D with life := up0 b }

set_option maxRecDepth 20000 in
set_option maxHeartbeats 800000 in
theorem Fail_any (Z : Nat → Prop) (p : Nat) (D : Dk) (b : Int) (w : World) (h : DiskAt Z w p D) :
    Calls Tryz.prog 108 #[.pointer (some ⟨p, 0, none⟩), .int .i64 b] w fun e w' => e = .returned (.tuple #[]) ∧ DiskAt Z w' p (D.fail b) ∧ Tr Z w w' := by
  obtain ⟨vf, vn, vs, vt, h⟩ := h
  have c5 : w.cell? ⟨p, 5, none⟩ = some (.int .i64 D.wait) := (h.cell 5).trans rfl
  have fz : ∀ o, w.frozen? ⟨p, o, none⟩ = false := h.frozen
  have HZ : Hid (DiskIn Z w p D vf vn vs vt) := h
  clear h
  by_cases hb : b < 0
  · have hm : max b 0 = 0 := by omega
    have HB : Hid (D.fail b = { D with wait := 0 }) := by show D.fail b = _; simp [Dk.fail, up0, hb]
    go_enter Tryz.func108, Tryz.ntmps108
    go_wp2
    go_end0
    exact ⟨rfl, by rw [HB.out]; first | exact ⟨_, _, _, _, HZ.out.setCell 5 _ rfl rfl rfl rfl rfl⟩ | (rw [hm]; exact ⟨_, _, _, _, HZ.out.setCell 5 _ rfl rfl rfl rfl rfl⟩), (Tr.refl Z w).setCell HZ.out.zp _⟩
  · have hm : max b 0 = b := by omega
    have HB : Hid (D.fail b = { D with wait := b }) := by show D.fail b = _; simp [Dk.fail, up0, hb]
    go_enter Tryz.func108, Tryz.ntmps108
    go_wp2
    go_end0
    exact ⟨rfl, by rw [HB.out]; first | exact ⟨_, _, _, _, HZ.out.setCell 5 _ rfl rfl rfl rfl rfl⟩ | (rw [hm]; exact ⟨_, _, _, _, HZ.out.setCell 5 _ rfl rfl rfl rfl rfl⟩), (Tr.refl Z w).setCell HZ.out.zp _⟩

set_option maxRecDepth 20000 in
set_option maxHeartbeats 800000 in
theorem Die_any (Z : Nat → Prop) (p : Nat) (D : Dk) (b : Int) (w : World) (h : DiskAt Z w p D) :
    Calls Tryz.prog 60 #[.pointer (some ⟨p, 0, none⟩), .int .i64 b] w fun e w' => e = .returned (.tuple #[]) ∧ DiskAt Z w' p (D.die b) ∧ Tr Z w w' := by
  obtain ⟨vf, vn, vs, vt, h⟩ := h
  have c6 : w.cell? ⟨p, 6, none⟩ = some (.int .i64 D.life) := (h.cell 6).trans rfl
  have fz : ∀ o, w.frozen? ⟨p, o, none⟩ = false := h.frozen
  have HZ : Hid (DiskIn Z w p D vf vn vs vt) := h
  clear h
  by_cases hb : b < 0
  · have hm : max b 0 = 0 := by omega
    have HB : Hid (D.die b = { D with life := 0 }) := by show D.die b = _; simp [Dk.die, up0, hb]
    go_enter Tryz.func60, Tryz.ntmps60
    go_wp2
    go_end0
    exact ⟨rfl, by rw [HB.out]; first | exact ⟨_, _, _, _, HZ.out.setCell 6 _ rfl rfl rfl rfl rfl⟩ | (rw [hm]; exact ⟨_, _, _, _, HZ.out.setCell 6 _ rfl rfl rfl rfl rfl⟩), (Tr.refl Z w).setCell HZ.out.zp _⟩
  · have hm : max b 0 = b := by omega
    have HB : Hid (D.die b = { D with life := b }) := by show D.die b = _; simp [Dk.die, up0, hb]
    go_enter Tryz.func60, Tryz.ntmps60
    go_wp2
    go_end0
    exact ⟨rfl, by rw [HB.out]; first | exact ⟨_, _, _, _, HZ.out.setCell 6 _ rfl rfl rfl rfl rfl⟩ | (rw [hm]; exact ⟨_, _, _, _, HZ.out.setCell 6 _ rfl rfl rfl rfl rfl⟩), (Tr.refl Z w).setCell HZ.out.zp _⟩

/-- The cells of a list of numbers. -/
def cellsI (l : List Int) : List Value := l.map (Value.int .i64)
theorem cellsI_len (l : List Int) : (cellsI l).length = l.length := by simp [cellsI]
theorem cellsI_at (l : List Int) (j : Nat) (h : j < l.length) : (cellsI l)[j]? = some (.int .i64 (l.getD j 0)) := by
  simp [cellsI, List.getD, List.getElem?_eq_getElem h]
/-- What a raw number picks of n. -/
def pickI (c n : Int) : Int := (if c < 0 then -(c + 1) else c) % n
theorem pickI_lt (c : Int) {n : Int} (h : 0 < n) : 0 ≤ pickI c n ∧ pickI c n < n := by
  unfold pickI
  exact ⟨Int.emod_nonneg _ (by omega), Int.emod_lt_of_pos _ h⟩
/-- What the k-th of some raw numbers picks of n; the last, if there is none. -/
def pickK (l : List Int) (k : Nat) (n : Int) : Int := if k < l.length then pickI (l.getD k 0) n else n - 1
theorem pickK_lt (l : List Int) (k : Nat) {n : Int} (h : 0 < n) : 0 ≤ pickK l k n ∧ pickK l k n < n := by
  unfold pickK
  split
  · exact pickI_lt _ h
  · omega
/-- A slice of numbers that reads as a list. -/
def RdI (w : World) (v : Value) (l : List Int) : Prop :=
  ∃ a cap, v = .slice a l.length cap ∧ l.length ≤ cap ∧ (0 < l.length → ∃ b off, a = some ⟨b, off, none⟩ ∧ ∀ j, j < l.length → w.cell? ⟨b, off + j, none⟩ = some (.int .i64 (l.getD j 0)))
theorem RdI.tr {Y : Nat → Prop} {w w' : World} {v : Value} {l : List Int} (h : RdI w v l) (t : Tr Y w w') (hz : InZ (fun k => ¬ Y k) v) : RdI w' v l := by
  obtain ⟨a, cap, rfl, hc, h1⟩ := h
  refine ⟨a, cap, rfl, hc, fun h0 => ?_⟩
  obtain ⟨b, off, rfl, h2⟩ := h1 h0
  exact ⟨b, off, rfl, fun j hj => cell_tr t (h2 j hj) (hz b rfl)⟩
theorem RdI.below {w w' : World} {v : Value} {l : List Int} (h : RdI w v l) (t : Below w.heap.size w w') : RdI w' v l := by
  obtain ⟨a, cap, rfl, hc, h1⟩ := h
  refine ⟨a, cap, rfl, hc, fun h0 => ?_⟩
  obtain ⟨b, off, rfl, h2⟩ := h1 h0
  exact ⟨b, off, rfl, fun j hj => cell_later t (h2 j hj)⟩
def In64 (l : List Int) : Prop := ∀ x ∈ l, -9223372036854775808 ≤ x ∧ x ≤ 9223372036854775807
theorem In64.at {l : List Int} (h : In64 l) (j : Nat) : -9223372036854775808 ≤ l.getD j 0 ∧ l.getD j 0 ≤ 9223372036854775807 := by
  by_cases hj : j < l.length
  · have := h _ (List.getElem_mem hj)
    simpa [List.getD, List.getElem?_eq_getElem hj] using this
  · simp [List.getD, List.getElem?_eq_none (Nat.le_of_not_lt hj)]

set_option maxRecDepth 20000 in
set_option maxHeartbeats 800000 in
theorem dpick_any (v : Value) (l : List Int) (k : Nat) (n : Int) (w : World) (h : RdI w v l) (hl : In64 l) (hlen : l.length ≤ 1000000000000000) (hk : k ≤ 1000000000000) (hn0 : 0 < n) (hn1 : n ≤ 1000000000000) :
    Calls Tryz.prog 42 #[v, .int .i64 k, .int .i64 n] w fun e w' => e = .returned (.int .i64 (pickK l k n)) ∧ w' = w := by
  obtain ⟨a, cap, rfl, _, hc⟩ := h
  have hl1 : (l.length : Int) ≤ 1000000000000000 := by omega
  have hk1 : (k : Int) ≤ 1000000000000 := by omega
  have hk0 : (0 : Int) ≤ (k : Int) := by omega
  by_cases hkl : k < l.length
  · obtain ⟨g, off, rfl, hr⟩ := hc (by omega)
    have e0 := hr k hkl
    have q1 : (k : Int) < (l.length : Int) := by omega
    obtain ⟨b0, b1⟩ := hl.at k
    have HP : Hid (pickK l k n = pickI (l.getD k 0) n) := by show _ = _; unfold pickK; rw [if_pos hkl]
    obtain ⟨c, hcc⟩ : ∃ c, l.getD k 0 = c := ⟨_, rfl⟩
    rw [hcc] at e0 HP b0 b1
    clear hc hr hkl
    by_cases hneg : c < 0
    · have HQ : Hid (pickI c n = (-(c + 1)) % n) := by show _ = _; unfold pickI; rw [if_pos hneg]
      have hw1 : IntKind.i64.wrap (c + 1) = c + 1 := wrap_in _ (by omega) (by omega)
      have hw2 : IntKind.i64.wrap (-(c + 1)) = -(c + 1) := wrap_in _ (by omega) (by omega)
      go_enter Tryz.func42, Tryz.ntmps42
      go_wp2
      go_ret
      refine ⟨?_, rfl⟩
      have e : ∀ x : Int, 0 ≤ x → x.tmod n = x % n := fun x hx => Int.tmod_eq_emod_of_nonneg hx
      rw [HP.out, HQ.out, ← e _ (by omega), Int.neg_tmod]
      rfl
    · have HQ : Hid (pickI c n = c % n) := by show _ = _; unfold pickI; rw [if_neg hneg]
      go_enter Tryz.func42, Tryz.ntmps42
      go_wp2
      go_ret
      refine ⟨?_, rfl⟩
      have e : ∀ x : Int, 0 ≤ x → x.tmod n = x % n := fun x hx => Int.tmod_eq_emod_of_nonneg hx
      rw [HP.out, HQ.out, ← e _ (by omega)]
      rfl
  · have HP : Hid (pickK l k n = n - 1) := by show _ = _; unfold pickK; rw [if_neg hkl]
    have q1 : (l.length : Int) ≤ (k : Int) := by omega
    have hw : IntKind.i64.wrap (n - 1) = n - 1 := wrap_in _ (by omega) (by omega)
    clear hc hkl
    go_enter Tryz.func42, Tryz.ntmps42
    go_wp2
    go_ret
    exact ⟨by rw [HP.out]; rfl, rfl⟩
end Go.Proofs.YtilkdeghknjjhaaGreatDoor
