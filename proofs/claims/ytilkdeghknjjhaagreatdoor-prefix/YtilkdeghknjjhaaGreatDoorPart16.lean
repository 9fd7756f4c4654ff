/- The contract of slices.Insert of one value into a row of the call's own. -/
import Derived.Test.YtilkdeghknjjhaaGreatDoorPart07
import Derived.WalkKit
import Derived.WalkSpells
import Derived.WalkLawsBesides
import Derived.Deep.QuietTactic
import Derived.BigQuiet
import Derived.Deep.RegionLaw
import Derived.Lib.AppendZerosOnto
import Derived.Lib.Overlaps
import Derived.Laws.Externs
import Derived.Lib.QuietBelow
namespace Go.Proofs.YtilkdeghknjjhaaGreatDoor
open Go.RowKit M
set_option linter.unusedVariables false

section
variable {P : Program}
/-- copy of m elements of any size into a row, from wherever they lie (the row itself too). -/
theorem run_copy_into (w : World) (dT sT ty elem : TypeId) (size g o dLen dCap m : Nat) (ad : Addr) (sLen sCap : Nat) (cur : List Value) (t : TypeId) (cs : List Value)
    (hu : P.underlying dT = some (.slice elem)) (hs : (P.info? elem).map (·.size) = some size) (hg : w.heap[g]? = some (.cells cur.toArray t (0, 0))) (hm : Nat.min sLen dLen = m) (hcs : cs.length = m * size)
    (hsrc : ∀ j v, cs[j]? = some v → w.cell? (ad.add j) = some v) (hfit : o + cs.length ≤ cur.length) (h1 : ∀ v ∈ cs, v.oneCell' = true) :
    (Builtin.copy_ #[dT, sT] ty #[.slice (some ⟨g, o, none⟩) dLen dCap, .slice (some ad) sLen sCap]).run P w = .ok (goInt m) (w.setRow g (cur.take o ++ cs ++ cur.drop (o + cs.length)).toArray) := by
  have hst := run_storeCells_at P g o t cs 0 cur.toArray w hg (by simpa using hfit) h1
  have hl := run_loadCells_list (P := P) w ad cs hsrc
  cases hq : P.info? elem with
  | none => simp [hq] at hs
  | some i =>
    have hi : i.size = size := by simpa [hq] using hs
    simp at hst
    simp [Builtin.copy_, run_underlying hu, Builtin.lenOf, Builtin.firstCells, sizeOf, typeInfo, hq, hi, hm, ← hcs, hl, hst]

/-- An operation 'copy' whose run is known. -/
theorem wpList_copy_known (w : World) {ops : Array Oper} {rest : List Oper} {o : Oper} {a : Act} {Q : Exit → Act → World → Prop} (hgd : o.guard = none) (d s : Operand) (t t' : TypeId)
    (ho : o.op = .call { callee := .builtin .copy, args := #[d, s], argTypes := #[t, t'] }) (v u : Value) (hd : a.eval d = v) (hsv : a.eval s = u) {v' : Value} {w' : World}
    (hr : ∀ ty, (Builtin.copy_ #[t, t'] ty #[v, u]).run P w = .ok v' w') (h : wpList P ops Q rest (a.put o.dst v') w') : wpList P ops Q (o :: rest) a w := by
  refine wpList_plain hgd fun K hK => ?_
  unfold Oper.wp
  simp [execOp, ho, resolve, invoke, builtin, hd, hsv, hr, Result.andThen]
  exact hK _ _ h
/-- The same as a step of a region that draws. -/
theorem step_copy_known {ops : Array Oper} {o : Oper} {a : Act} {w : World} {K : Act → World → Prop} {Q : Exit → Act → World → Prop} {E : Prop} (hgd : o.guard = none) (d s : Operand) (t t' : TypeId)
    (ho : o.op = .call { callee := .builtin .copy, args := #[d, s], argTypes := #[t, t'] }) (v u : Value) (hd : a.eval d = v) (hsv : a.eval s = u) {v' : Value} {w' : World}
    (hr : ∀ ty, (Builtin.copy_ #[t, t'] ty #[v, u]).run P w = .ok v' w') (h : K (a.put o.dst v') w') : if Region.wanted o (yielded ops a.tmps) = true then Oper.wp P o a w K Q else E := by
  rw [if_pos (by simp [Region.wanted, hgd])]
  unfold Oper.wp
  simp [execOp, ho, resolve, invoke, builtin, hd, hsv, hr, Result.andThen]
  exact h
/-- An operation 'append' whose run is known, whatever it is handed. -/
theorem wpList_append_known (w : World) {ops : Array Oper} {rest : List Oper} {o : Oper} {a : Act} {Q : Exit → Act → World → Prop} (hgd : o.guard = none) (d s : Operand) (t t' : TypeId)
    (ho : o.op = .call { callee := .builtin .append, args := #[d, s], argTypes := #[t, t'] }) (v u : Value) (hd : a.eval d = v) (hsv : a.eval s = u) {v' : Value} {w' : World}
    (hr : ∀ ty, (Builtin.append_ #[t, t'] ty #[v, u]).run P w = .ok v' w') (h : wpList P ops Q rest (a.put o.dst v') w') : wpList P ops Q (o :: rest) a w := by
  refine wpList_plain hgd fun K hK => ?_
  unfold Oper.wp
  simp [execOp, ho, resolve, invoke, builtin, hd, hsv, hr, Result.andThen]
  exact hK _ _ h
end

theorem size57 : (Tryz.prog.info? 122).map (·.size) = some 3 := by kernel_rfl
/-- A list with a value put in at a place. -/
def put (l : List Sb) (k : Nat) (x : Sb) : List Sb := l.take k ++ x :: l.drop k
theorem put_len (l : List Sb) (k : Nat) (x : Sb) (h : k ≤ l.length) : (put l k x).length = l.length + 1 := by simp [put]; omega
theorem cellsS_put (l : List Sb) (k : Nat) (x : Sb) : cellsS (put l k x) = cellsS (l.take k) ++ [.int .i64 x.n, .int .i64 x.c, .string x.v] ++ cellsS (l.drop k) := by
  unfold put; rw [cellsS_append]; simp [cellsS]
theorem cellsS_take (l : List Sb) (k : Nat) (h : k ≤ l.length) : (cellsS l).take (k * 3) = cellsS (l.take k) := by
  have e : cellsS l = cellsS (l.take k) ++ cellsS (l.drop k) := by rw [← cellsS_append, List.take_append_drop]
  rw [e, List.take_append_of_le_length (by rw [cellsS_len]; simp; omega), List.take_of_length_le (by rw [cellsS_len]; simp; omega)]
theorem cellsS_drop (l : List Sb) (k : Nat) (h : k ≤ l.length) : (cellsS l).drop (k * 3) = cellsS (l.drop k) := by
  have e : cellsS l = cellsS (l.take k) ++ cellsS (l.drop k) := by rw [← cellsS_append, List.take_append_drop]
  rw [e, List.drop_append_of_le_length (by rw [cellsS_len]; simp; omega), List.drop_eq_nil_of_le (by rw [cellsS_len]; simp; omega), List.nil_append]

set_option maxRecDepth 40000 in
set_option maxHeartbeats 1600000 in
theorem Insert_end (B : Nat) (v : Value) (l : List Sb) (x : Sb) (g2 c2 : Nat) (w : World) (hB : B ≤ w.heap.size) (hown : w.ownsRow B 122 3 v l.length (cellsS l)) (hl : l.length ≤ 1000)
    (hx : ∀ j u, [Value.int .i64 x.n, .int .i64 x.c, .string x.v][j]? = some u → w.cell? ((⟨g2, 0, none⟩ : Addr).add j) = some u) :
    Calls Tryz.prog 235 #[v, .int .i64 (l.length : Int), .slice (some ⟨g2, 0, none⟩) 1 c2] w fun e w' => ∃ v', e = .returned v' ∧ w'.ownsRow B 122 3 v' (l.length + 1) (cellsS (put l l.length x)) ∧ Below B w w' := by
  obtain ⟨i0, hi, hz0, hz1, hz2⟩ := info_parts Tryz.info122
  have hvl : ∃ a cap, v = .slice a l.length cap ∧ l.length ≤ cap := by
    rcases hown.2 with ⟨h1, h2⟩ | ⟨g, cap, cur, h1, _, _, h2, _⟩
    · exact ⟨none, 0, by rw [h1, h2], by omega⟩
    · exact ⟨_, _, h1, h2⟩
  obtain ⟨a, cap, rfl, hcap⟩ := hvl
  have hl1 : (l.length : Int) ≤ 1000 := by omega
  have hc1 : cap ≤ 9223372036854775807 := by
    rcases hown.2 with ⟨h1, h2⟩ | ⟨g, cap', cur, h1, _, _, _, hm, _⟩
    · simp at h1; omega
    · simp at h1; simp only [maxLen] at hm; omega
  have HP : Hid (cellsS (put l l.length x) = cellsS l ++ [.int .i64 x.n, .int .i64 x.c, .string x.v]) := by
    show _ = _
    rw [cellsS_put]; simp [cellsS]
  by_cases hcn : cap = l.length
  · subst hcn
    go_enter Tryz.func235, Tryz.ntmps235
    go_wp2_with (first
      | (at_builtin; refine wpList_append_own _ rfl _ _ 115 rfl B 122 i0 (.agg #[.int .i64 0, .int .i64 0, .string ByteArray.empty]) 3 32 Tryz.underlying115 hi hz0 hz1 hz2 rfl (by decide) _ _ _ rfl hown ⟨g2, 0, none⟩ 1 c2 [.int .i64 x.n, .int .i64 x.c, .string x.v] rfl rfl hx ?c2 ?c3 ?c4 ?c5 ?_))
    case c2 => intro u hu; simp at hu; rcases hu with rfl | rfl | rfl <;> rfl
    case c3 => unfold maxLen; omega
    case c4 => omega
    case c5 => omega
    · intro v' w2 hown' hgrow _
      go_wp2
      go_ret
      exact ⟨_, rfl, by rw [HP.out]; exact hown', (Below.refl _ _).grown hgrow hB (fun q hq => (hown.lt q hq).1)⟩
  · have hcn2 : ¬ cap = l.length := hcn
    go_enter Tryz.func235, Tryz.ntmps235
    go_wp2_with (first
      | (at_builtin; refine wpList_append_own _ rfl _ _ 115 rfl B 122 i0 (.agg #[.int .i64 0, .int .i64 0, .string ByteArray.empty]) 3 32 Tryz.underlying115 hi hz0 hz1 hz2 rfl (by decide) _ _ _ rfl hown ⟨g2, 0, none⟩ 1 c2 [.int .i64 x.n, .int .i64 x.c, .string x.v] rfl rfl hx ?c2 ?c3 ?c4 ?c5 ?_))
    case c2 => intro u hu; simp at hu; rcases hu with rfl | rfl | rfl <;> rfl
    case c3 => unfold maxLen; omega
    case c4 => omega
    case c5 => omega
    · intro v' w2 hown' hgrow _
      go_wp2
      go_ret
      exact ⟨_, rfl, by rw [HP.out]; exact hown', (Below.refl _ _).grown hgrow hB (fun q hq => (hown.lt q hq).1)⟩
end Go.Proofs.YtilkdeghknjjhaaGreatDoor
/- The contract of slices.Insert of one value within the row. -/
namespace Go.Proofs.YtilkdeghknjjhaaGreatDoor
open Go.RowKit M
set_option linter.unusedVariables false

theorem size57r : ∀ w, (Go.sizeOf 122).run Tryz.prog w = .ok 3 w := fun w => by
  obtain ⟨i0, hi, hz0, hz1, hz2⟩ := info_parts Tryz.info122
  simp [sizeOf, typeInfo, hi, hz1]
theorem shape_of {w : World} {g : Nat} {cs : Array Value} {t : TypeId} (h : w.heap[g]? = some (.cells cs t (0, 0))) : w.shape? g = some (t, cs.size) := by
  simp [World.shape?, h]
theorem overlaps_no (w : World) (g g2 o la ca lb cb : Nat) (cur : Array Value) (x : Array Value) (hne : g2 ≠ g) (hg : w.heap[g]? = some (.cells cur 122 (0, 0))) (hx : w.heap[g2]? = some (.cells x 122 (0, 0))) (hc : cur.size ≠ 0) :
    (callFunc 268 #[.slice (some ⟨g2, 0, none⟩) la ca, .slice (some ⟨g, o, none⟩) lb cb]).run Tryz.prog w = .ok (.value (.bool false)) w := by
  rw [run_callFunc_extern Tryz.func268 (by kernel_rfl) (by kernel_rfl) (by kernel_rfl) (e := Extern.SlicesOverlaps.overlaps #[115, 115] #[4]) (by kernel_rfl),
    Lib.run_overlaps_apart w 115 4 122 Tryz.underlying115 3 size57r ⟨g2, 0, none⟩ ⟨g, o, none⟩ la ca lb cb hne 122 122 x.size cur.size (shape_of hx) (shape_of hg) hc (frozen_of_row _ _ _ _ _ hx) (frozen_of_row _ _ _ _ _ hx)]
  rfl

set_option maxRecDepth 40000 in
set_option maxHeartbeats 1600000 in
theorem Insert_shift (B g cap : Nat) (cur : List Value) (l : List Sb) (x : Sb) (g2 c2 k : Nat) (w : World) (hBg : B ≤ g) (hB : B ≤ w.heap.size) (hg : w.heap[g]? = some (.cells cur.toArray 122 (0, 0))) (hsz : cur.length = cap * 3)
    (htk : cur.take (l.length * 3) = cellsS l) (hcm : cap ≤ maxLen) (hl : l.length ≤ 1000) (hk : k < l.length) (hroom : l.length + 1 ≤ cap) (hne : g2 ≠ g)
    (hx : w.heap[g2]? = some (.cells #[Value.int .i64 x.n, Value.int .i64 x.c, Value.string x.v] 122 (0, 0))) :
    Calls Tryz.prog 235 #[.slice (some ⟨g, 0, none⟩) l.length cap, .int .i64 (k : Int), .slice (some ⟨g2, 0, none⟩) 1 c2] w fun e w' => ∃ v', e = .returned v' ∧ w'.ownsRow B 122 3 v' (l.length + 1) (cellsS (put l k x)) ∧ Below B w w' := by
  have hl1 : (l.length : Int) ≤ 1000 := by omega
  have hc1 : cap ≤ 9223372036854775807 := by simp only [maxLen] at hcm; omega
  have hov := fun lb cb => overlaps_no w g g2 ((k + 1) * 3) 1 c2 lb cb cur.toArray _ hne hg hx (by rw [List.size_toArray, hsz]; omega)
  have s1 : ¬ ((1 : Int) = 0) := by omega
  have s2 : ¬ ((k : Int) = (l.length : Int)) := by omega
  have s2' : ((k : Int) == (l.length : Int)) = false := by simp; omega
  have s3 : ¬ cap = k := by omega
  have s4 : ¬ cap = k + 1 := by omega
  have s5 : (k : Int) < (l.length : Int) := by omega
  have s6 : (l.length : Int) + 1 ≤ (cap : Int) := by omega
  have hd3 : (cellsS (l.drop k)).length = (l.length - k) * 3 := by rw [cellsS_len]; simp
  have hcell : ∀ j u, (cellsS (l.drop k))[j]? = some u → cur[k * 3 + j]? = some u := by
    intro j u hu
    have hj : j < (l.length - k) * 3 := by rw [← hd3]; exact (List.getElem?_eq_some_iff.1 hu).1
    rw [← cellsS_drop l k (by omega), List.getElem?_drop, ← htk, List.getElem?_take] at hu
    rw [if_pos (by omega)] at hu
    exact hu
  have hr1 : ∀ ty, (Builtin.copy_ #[115, 115] ty #[.slice (some ⟨g, (k + 1) * 3, none⟩) (l.length - k) (cap - (k + 1)), .slice (some ⟨g, k * 3, none⟩) (l.length + 1 - k) (cap - k)]).run Tryz.prog w.drew =
      .ok (goInt ((l.length - k : Nat) : Int)) (w.drew.setRow g (cur.take ((k + 1) * 3) ++ cellsS (l.drop k) ++ cur.drop ((k + 1) * 3 + (cellsS (l.drop k)).length)).toArray) := fun ty =>
    run_copy_into w.drew 115 115 ty 122 3 g ((k + 1) * 3) (l.length - k) (cap - (k + 1)) (l.length - k) ⟨g, k * 3, none⟩ (l.length + 1 - k) (cap - k) cur 122 (cellsS (l.drop k)) Tryz.underlying115 size57 hg (by simp only [Nat.min_def]; split <;> omega) hd3
      (fun j u hu => by rw [Addr.add_lit, cell_of_row w.drew _ _ _ _ _ hg]; simpa using hcell j u hu) (by rw [hd3, hsz]; omega) (one_cellsS _)
  obtain ⟨R1, hR1⟩ : ∃ R1, cur.take ((k + 1) * 3) ++ cellsS (l.drop k) ++ cur.drop ((k + 1) * 3 + (cellsS (l.drop k)).length) = R1 := ⟨_, rfl⟩
  have hR1l : R1.length = cap * 3 := by
    rw [← hR1]
    simp only [List.length_append, List.length_take, List.length_drop, hsz, hd3]
    omega
  rw [hR1] at hr1
  have hg1 : (w.drew.setRow g R1.toArray).heap[g]? = some (.cells R1.toArray 122 (0, 0)) := setRow_heap w.drew g cur.toArray _ 122 _ hg
  have hx1 : (w.drew.setRow g R1.toArray).heap[g2]? = some (.cells #[Value.int .i64 x.n, Value.int .i64 x.c, Value.string x.v] 122 (0, 0)) := (setRow_other w.drew g g2 _ hne).trans hx
  have hr2 : ∀ ty, (Builtin.copy_ #[115, 115] ty #[.slice (some ⟨g, k * 3, none⟩) (l.length + 1 - k) (cap - k), .slice (some ⟨g2, 0, none⟩) 1 c2]).run Tryz.prog (w.drew.setRow g R1.toArray) =
      .ok (goInt ((1 : Nat) : Int)) ((w.drew.setRow g R1.toArray).setRow g (R1.take (k * 3) ++ [Value.int .i64 x.n, Value.int .i64 x.c, Value.string x.v] ++ R1.drop (k * 3 + 3)).toArray) := fun ty =>
    run_copy_into _ 115 115 ty 122 3 g (k * 3) (l.length + 1 - k) (cap - k) 1 ⟨g2, 0, none⟩ 1 c2 R1 122 [Value.int .i64 x.n, Value.int .i64 x.c, Value.string x.v] Tryz.underlying115 size57 hg1 (by simp only [Nat.min_def]; split <;> omega) rfl
      (fun j u hu => by rw [Addr.add_lit, cell_of_row _ _ _ _ _ _ hx1]; simpa using hu) (by rw [hR1l]; simp; omega) (fun u hu => by simp at hu; rcases hu with rfl | rfl | rfl <;> rfl)
  obtain ⟨R2, hR2⟩ : ∃ R2, R1.take (k * 3) ++ [Value.int .i64 x.n, Value.int .i64 x.c, Value.string x.v] ++ R1.drop (k * 3 + 3) = R2 := ⟨_, rfl⟩
  rw [hR2] at hr2
  have hfin : ((w.drew.setRow g R1.toArray).setRow g R2.toArray).ownsRow B 122 3 (.slice (some ⟨g, 0, none⟩) (l.length + 1) cap) (l.length + 1) (cellsS (put l k x)) := by
    refine ⟨by rw [cellsS_len, put_len l k x (by omega)], .inr ⟨g, cap, R2.toArray, rfl, hBg, setRow_heap _ _ _ _ _ _ hg1, hroom, hcm, ?_, ?_⟩⟩
    · rw [List.size_toArray, ← hR2]
      simp only [List.length_append, List.length_take, List.length_drop, hR1l, List.length_cons, List.length_nil]
      omega
    · show R2.take ((l.length + 1) * 3) = _
      rw [cellsS_put, ← hR2, ← hR1]
      have e1 : (cur.take ((k + 1) * 3) ++ cellsS (l.drop k) ++ cur.drop ((k + 1) * 3 + (cellsS (l.drop k)).length)).take (k * 3) = cellsS (l.take k) := by
        rw [List.append_assoc, List.take_append_of_le_length (by rw [List.length_take, hsz]; omega), List.take_take, Nat.min_eq_left (by omega), ← cellsS_take l k (by omega), ← htk, List.take_take, Nat.min_eq_left (by omega)]
      have e2 : (cur.take ((k + 1) * 3) ++ cellsS (l.drop k) ++ cur.drop ((k + 1) * 3 + (cellsS (l.drop k)).length)).drop (k * 3 + 3) = cellsS (l.drop k) ++ cur.drop ((k + 1) * 3 + (cellsS (l.drop k)).length) := by
        rw [List.append_assoc, List.drop_append, List.drop_eq_nil_of_le (by rw [List.length_take, hsz]; omega), List.length_take, hsz, List.nil_append, show k * 3 + 3 - min ((k + 1) * 3) (cap * 3) = 0 by omega]
        rfl
      rw [e1, e2]
      have e3 : (cellsS (l.take k) ++ [Value.int .i64 x.n, Value.int .i64 x.c, Value.string x.v] ++ (cellsS (l.drop k) ++ cur.drop ((k + 1) * 3 + (cellsS (l.drop k)).length))) =
          (cellsS (l.take k) ++ [Value.int .i64 x.n, Value.int .i64 x.c, Value.string x.v] ++ cellsS (l.drop k)) ++ cur.drop ((k + 1) * 3 + (cellsS (l.drop k)).length) := by simp only [List.append_assoc]
      rw [e3]
      refine (List.take_append_of_le_length ?_).trans (List.take_of_length_le ?_)
      · simp only [List.length_append, hd3, cellsS_len, List.length_take, List.length_cons, List.length_nil]; omega
      · simp only [List.length_append, hd3, cellsS_len, List.length_take, List.length_cons, List.length_nil]; omega
  have hbel : Below B w ((w.drew.setRow g R1.toArray).setRow g R2.toArray) := below_setRow (below_setRow ((Below.refl B w).drew) hBg _) hBg _
  have HF : Hid (((w.drew.setRow g R1.toArray).setRow g R2.toArray).ownsRow B 122 3 (.slice (some ⟨g, 0, none⟩) (l.length + 1) cap) (l.length + 1) (cellsS (put l k x)) ∧ Below B w ((w.drew.setRow g R1.toArray).setRow g R2.toArray)) := ⟨hfin, hbel⟩
  have H1 : Hid (∀ ty, (Builtin.copy_ #[115, 115] ty #[.slice (some ⟨g, (k + 1) * 3, none⟩) (l.length - k) (cap - (k + 1)), .slice (some ⟨g, k * 3, none⟩) (l.length + 1 - k) (cap - k)]).run Tryz.prog w.drew = .ok (goInt ((l.length - k : Nat) : Int)) (w.drew.setRow g R1.toArray)) := hr1
  have H2 : Hid (∀ ty, (Builtin.copy_ #[115, 115] ty #[.slice (some ⟨g, k * 3, none⟩) (l.length + 1 - k) (cap - k), .slice (some ⟨g2, 0, none⟩) 1 c2]).run Tryz.prog (w.drew.setRow g R1.toArray) = .ok (goInt ((1 : Nat) : Int)) ((w.drew.setRow g R1.toArray).setRow g R2.toArray)) := hr2
  clear hfin hbel hr1 hr2 hg hx htk hsz hcell hd3 hR1 hR1l hR2 hg1 hx1
  go_enter Tryz.func235, Tryz.ntmps235
  go_wp2_with (simp only [hov])
  have hw1 : IntKind.i64.wrap ((k : Int) + 1) = (k : Int) + 1 := by rw [IntKind.wrap_i64]; omega
  have hb1 : (0 : Int) ≤ (k : Int) + 1 := by omega
  have htn : ((k : Int) + 1).toNat = k + 1 := by omega
  have hb3 : (k : Int) ≤ (l.length : Int) := by omega
  have hb4 : (k : Int) ≤ (l.length : Int) + 1 := by omega
  go_region_law (refine step_copy_known rfl _ _ 115 115 rfl (.slice (some ⟨g, (k + 1) * 3, none⟩) (l.length - k) (cap - (k + 1))) (.slice (some ⟨g, k * 3, none⟩) (l.length + 1 - k) (cap - k)) (by simp [Act.eval, Act.put]) (by simp [Act.eval, Act.put]) H1.out ?_)
  go_wp2_with (refine wpList_copy_known _ rfl _ _ 115 115 rfl (.slice (some ⟨g, k * 3, none⟩) (l.length + 1 - k) (cap - k)) (.slice (some ⟨g2, 0, none⟩) 1 c2) rfl rfl H2.out ?_)
  go_ret
  exact ⟨_, rfl, HF.out.1, HF.out.2⟩
end Go.Proofs.YtilkdeghknjjhaaGreatDoor
/- The contract of slices.Insert of one value where the row must grow. -/
namespace Go.Proofs.YtilkdeghknjjhaaGreatDoor
open Go.RowKit M
set_option linter.unusedVariables false

set_option maxRecDepth 40000 in
set_option maxHeartbeats 1600000 in
theorem Insert_grow (B g cap : Nat) (cur : List Value) (l : List Sb) (x : Sb) (g2 c2 k : Nat) (w : World) (hB : B ≤ w.heap.size) (hg : w.heap[g]? = some (.cells cur.toArray 122 (0, 0))) (hsz : cur.length = cap * 3)
    (htk : cur.take (l.length * 3) = cellsS l) (hcl : l.length ≤ cap) (hl : l.length ≤ 1000) (hk : k < l.length) (hroom : cap < l.length + 1)
    (hx : w.heap[g2]? = some (.cells #[Value.int .i64 x.n, Value.int .i64 x.c, Value.string x.v] 122 (0, 0))) :
    Calls Tryz.prog 235 #[.slice (some ⟨g, 0, none⟩) l.length cap, .int .i64 (k : Int), .slice (some ⟨g2, 0, none⟩) 1 c2] w fun e w' => ∃ v', e = .returned v' ∧ w'.ownsRow B 122 3 v' (l.length + 1) (cellsS (put l k x)) ∧ Below B w w' := by
  obtain ⟨i0, hi, hz0, hz1, hz2⟩ := info_parts Tryz.info122
  obtain rfl : cap = l.length := by omega
  have hl1 : (l.length : Int) ≤ 1000 := by omega
  have hgw : g < w.heap.size := (Array.getElem?_eq_some_iff.1 hg).1
  have hxw : g2 < w.heap.size := (Array.getElem?_eq_some_iff.1 hx).1
  have hd3 : (cellsS (l.drop k)).length = (l.length - k) * 3 := by rw [cellsS_len]; simp
  have ht3 : (cellsS (l.take k)).length = k * 3 := by rw [cellsS_len]; simp; omega
  have hcur : cur = cellsS l := by rw [← htk, List.take_of_length_le (by omega)]
  have hold : (Builtin.firstCells i0.size k (.slice (some ⟨g, 0, none⟩) k l.length)).run Tryz.prog w.drew = .ok (cellsS (l.take k)).toArray w.drew :=
    run_firstCells_some w.drew i0.size k ⟨g, 0, none⟩ k l.length (cellsS (l.take k)) (by rw [hz1, ht3]) (fun j u hu => by
      rw [Addr.add_lit, cell_of_row w.drew _ _ _ _ _ hg, hcur, Nat.zero_add]
      rw [← cellsS_take l k (by omega), List.getElem?_take] at hu
      split at hu
      · simpa using hu
      · cases hu)
  obtain ⟨G, hG⟩ : ∃ G, grownCap w (l.length + 1) l.length 122 = G := ⟨_, rfl⟩
  have hGn : l.length + 1 ≤ G := by rw [← hG]; exact grownCap_ge _ _ _ _
  have hGm : G ≤ maxLen := by rw [← hG]; exact grownCap_le_maxLen _ _ _ _ (by unfold maxLen; omega)
  have hGm' : G ≤ 9223372036854775807 := by simp only [maxLen] at hGm; omega
  obtain ⟨R0, hR0⟩ : ∃ R0 : List Value, cellsS (l.take k) ++ (Builtin.zeroCells (Value.agg #[.int .i64 0, .int .i64 0, .string ByteArray.empty]).cells (l.length + 1 - k)).toList ++ (Builtin.zeroCells (Value.agg #[.int .i64 0, .int .i64 0, .string ByteArray.empty]).cells (G - (l.length + 1))).toList = R0 := ⟨_, rfl⟩
  have hR0l : R0.length = G * 3 := by
    rw [← hR0]
    simp only [List.length_append, ht3, Array.length_toList, Builtin.zeroCells, Array.size_map, Array.size_range, Value.cells]
    simp only [List.size_toArray, List.length_cons, List.length_nil]
    omega
  have hR0t : R0.take (k * 3) = cellsS (l.take k) := by
    rw [← hR0, List.append_assoc]
    refine (List.take_append_of_le_length (by omega)).trans (List.take_of_length_le (by omega))
  have happ : ∀ ty, (Builtin.append_ #[115, 3] ty #[.slice (some ⟨g, 0, none⟩) k l.length, .int .i64 ((l.length : Int) + 1 - (k : Int))]).run Tryz.prog w =
      .ok (.slice (some ⟨w.heap.size, 0, none⟩) (l.length + 1) G) (w.drew.alloc (.cells R0.toArray 122)) := fun ty => by
    have h := Lib.run_append_grow_zeros (P := Tryz.prog) w 115 3 ty 122 i0 _ .i64 .i64 Tryz.underlying115 Tryz.underlying3 hi hz0 (some ⟨g, 0, none⟩) k l.length (cellsS (l.take k)) hold (l.length + 1 - k) (by omega) (by omega) (by omega) (by omega) (by rw [hz2]; omega) (by rw [hz2]; exact growslice_fits (by omega) (by omega))
    rw [show k + (l.length + 1 - k) = l.length + 1 by omega, show (((l.length + 1 - k : Nat)) : Int) = (l.length : Int) + 1 - (k : Int) by omega, hG] at h
    rw [h, ← hR0]
    congr 3
    apply Array.ext'
    simp
  obtain ⟨W1, hW1⟩ : ∃ W1, w.drew.alloc (.cells R0.toArray 122) = W1 := ⟨_, rfl⟩
  have hn1 : W1.heap[w.heap.size]? = some (.cells R0.toArray 122 (0, 0)) := by rw [← hW1]; exact heap_alloc_new w.drew _
  have hg1 : W1.heap[g]? = some (.cells cur.toArray 122 (0, 0)) := by rw [← hW1]; exact (heap_alloc_old w.drew _ hgw).trans hg
  have hx1 : W1.heap[g2]? = some (.cells #[Value.int .i64 x.n, Value.int .i64 x.c, Value.string x.v] 122 (0, 0)) := by rw [← hW1]; exact (heap_alloc_old w.drew _ hxw).trans hx
  have hb1' : Below B w W1 := by rw [← hW1]; exact (Below.refl B w).drew.alloc hB _
  have hneg : g ≠ w.heap.size := by omega
  have hnex : g2 ≠ w.heap.size := by omega
  rw [hW1] at happ
  clear hW1
  obtain ⟨N, hN⟩ : ∃ N, w.heap.size = N := ⟨_, rfl⟩
  have hBN : B ≤ N := by omega
  rw [hN] at happ hn1 hneg hnex
  have hr2 : ∀ ty, (Builtin.copy_ #[115, 115] ty #[.slice (some ⟨N, k * 3, none⟩) (l.length + 1 - k) (G - k), .slice (some ⟨g2, 0, none⟩) 1 c2]).run Tryz.prog W1 =
      .ok (goInt ((1 : Nat) : Int)) (W1.setRow N (R0.take (k * 3) ++ [Value.int .i64 x.n, Value.int .i64 x.c, Value.string x.v] ++ R0.drop (k * 3 + 3)).toArray) := fun ty =>
    run_copy_into _ 115 115 ty 122 3 N (k * 3) (l.length + 1 - k) (G - k) 1 ⟨g2, 0, none⟩ 1 c2 R0 122 [Value.int .i64 x.n, Value.int .i64 x.c, Value.string x.v] Tryz.underlying115 size57 hn1 (by simp only [Nat.min_def]; split <;> omega) rfl
      (fun j u hu => by rw [Addr.add_lit, cell_of_row _ _ _ _ _ _ hx1]; simpa using hu) (by rw [hR0l]; simp; omega) (fun u hu => by simp at hu; rcases hu with rfl | rfl | rfl <;> rfl)
  rw [hR0t] at hr2
  obtain ⟨R1, hR1⟩ : ∃ R1, cellsS (l.take k) ++ [Value.int .i64 x.n, Value.int .i64 x.c, Value.string x.v] ++ R0.drop (k * 3 + 3) = R1 := ⟨_, rfl⟩
  rw [hR1] at hr2
  have hR1l : R1.length = G * 3 := by
    rw [← hR1]
    simp only [List.length_append, ht3, List.length_drop, hR0l, List.length_cons, List.length_nil]
    omega
  have hR1t : R1.take ((k + 1) * 3) = cellsS (l.take k) ++ [Value.int .i64 x.n, Value.int .i64 x.c, Value.string x.v] := by
    rw [← hR1]
    refine (List.take_append_of_le_length ?_).trans (List.take_of_length_le ?_)
    · simp only [List.length_append, ht3, List.length_cons, List.length_nil]; omega
    · simp only [List.length_append, ht3, List.length_cons, List.length_nil]; omega
  have hn2 : (W1.setRow N R1.toArray).heap[N]? = some (.cells R1.toArray 122 (0, 0)) := setRow_heap W1 N _ _ 122 _ hn1
  have hg2 : (W1.setRow N R1.toArray).heap[g]? = some (.cells cur.toArray 122 (0, 0)) := (setRow_other W1 N g _ hneg).trans hg1
  have hr3 : ∀ ty, (Builtin.copy_ #[115, 115] ty #[.slice (some ⟨N, (k + 1) * 3, none⟩) (l.length + 1 - (k + 1)) (G - (k + 1)), .slice (some ⟨g, k * 3, none⟩) (l.length - k) (l.length - k)]).run Tryz.prog (W1.setRow N R1.toArray).drew =
      .ok (goInt ((l.length - k : Nat) : Int)) ((W1.setRow N R1.toArray).drew.setRow N (R1.take ((k + 1) * 3) ++ cellsS (l.drop k) ++ R1.drop ((k + 1) * 3 + (cellsS (l.drop k)).length)).toArray) := fun ty =>
    run_copy_into _ 115 115 ty 122 3 N ((k + 1) * 3) (l.length + 1 - (k + 1)) (G - (k + 1)) (l.length - k) ⟨g, k * 3, none⟩ (l.length - k) (l.length - k) R1 122 (cellsS (l.drop k)) Tryz.underlying115 size57 hn2 (by simp only [Nat.min_def]; split <;> omega) hd3
      (fun j u hu => by
        rw [Addr.add_lit, cell_of_row (W1.setRow N R1.toArray).drew _ _ _ _ _ hg2, hcur]
        rw [← cellsS_drop l k (by omega), List.getElem?_drop] at hu
        simpa using hu) (by rw [hd3, hR1l]; omega) (one_cellsS _)
  rw [hR1t] at hr3
  obtain ⟨R2, hR2⟩ : ∃ R2, cellsS (l.take k) ++ [Value.int .i64 x.n, Value.int .i64 x.c, Value.string x.v] ++ cellsS (l.drop k) ++ R1.drop ((k + 1) * 3 + (cellsS (l.drop k)).length) = R2 := ⟨_, rfl⟩
  rw [hR2] at hr3
  have hfin : ((W1.setRow N R1.toArray).drew.setRow N R2.toArray).ownsRow B 122 3 (.slice (some ⟨N, 0, none⟩) (l.length + 1) G) (l.length + 1) (cellsS (put l k x)) := by
    refine ⟨by rw [cellsS_len, put_len l k x (by omega)], .inr ⟨N, G, R2.toArray, rfl, hBN, setRow_heap _ _ _ _ _ _ hn2, hGn, hGm, ?_, ?_⟩⟩
    · rw [List.size_toArray, ← hR2]
      simp only [List.length_append, ht3, hd3, List.length_drop, hR1l, List.length_cons, List.length_nil]
      omega
    · show R2.take ((l.length + 1) * 3) = _
      rw [cellsS_put, ← hR2]
      refine (List.take_append_of_le_length ?_).trans (List.take_of_length_le ?_)
      · simp only [List.length_append, ht3, hd3, List.length_cons, List.length_nil]; omega
      · simp only [List.length_append, ht3, hd3, List.length_cons, List.length_nil]; omega
  have hbel : Below B w ((W1.setRow N R1.toArray).drew.setRow N R2.toArray) := below_setRow (below_setRow hb1' hBN _).drew hBN _
  have HF : Hid (((W1.setRow N R1.toArray).drew.setRow N R2.toArray).ownsRow B 122 3 (.slice (some ⟨N, 0, none⟩) (l.length + 1) G) (l.length + 1) (cellsS (put l k x)) ∧ Below B w ((W1.setRow N R1.toArray).drew.setRow N R2.toArray)) := ⟨hfin, hbel⟩
  have H1 : Hid (∀ ty, (Builtin.append_ #[115, 3] ty #[.slice (some ⟨g, 0, none⟩) k l.length, .int .i64 ((l.length : Int) + 1 - (k : Int))]).run Tryz.prog w =
      .ok (.slice (some ⟨N, 0, none⟩) (l.length + 1) G) W1) := happ
  have H2 : Hid (∀ ty, (Builtin.copy_ #[115, 115] ty #[.slice (some ⟨N, k * 3, none⟩) (l.length + 1 - k) (G - k), .slice (some ⟨g2, 0, none⟩) 1 c2]).run Tryz.prog W1 = .ok (goInt ((1 : Nat) : Int)) (W1.setRow N R1.toArray)) := hr2
  have H3 : Hid (∀ ty, (Builtin.copy_ #[115, 115] ty #[.slice (some ⟨N, (k + 1) * 3, none⟩) (l.length + 1 - (k + 1)) (G - (k + 1)), .slice (some ⟨g, k * 3, none⟩) (l.length - k) (l.length - k)]).run Tryz.prog (W1.setRow N R1.toArray).drew = .ok (goInt ((l.length - k : Nat) : Int)) ((W1.setRow N R1.toArray).drew.setRow N R2.toArray)) := hr3
  have s2 : ¬ ((k : Int) = (l.length : Int)) := by omega
  have s2' : ((k : Int) == (l.length : Int)) = false := by simp; omega
  have s3 : ¬ l.length = k := by omega
  have s4 : ¬ G = k + 1 := by omega
  have s7 : ¬ G = k := by omega
  have s5 : (k : Int) ≤ (G : Int) := by omega
  have s6 : (k : Int) + 1 ≤ (G : Int) := by omega
  have hw1 : IntKind.i64.wrap ((k : Int) + 1) = (k : Int) + 1 := by rw [IntKind.wrap_i64]; omega
  have hb1 : (0 : Int) ≤ (k : Int) + 1 := by omega
  have htn : ((k : Int) + 1).toNat = k + 1 := by omega
  have hb3 : (k : Int) ≤ (l.length : Int) := by omega
  have hb4 : (k : Int) ≤ (l.length : Int) + 1 := by omega
  have hb5 : (k : Int) + 1 ≤ (l.length : Int) + 1 := by omega
  clear hfin hbel hr2 hr3 happ hg hx htk hsz hcur hold hd3 ht3 hR0 hR0l hR0t hR1 hR1l hR1t hR2 hg1 hx1 hg2 hn1 hn2 hG hGm hb1' hi hz0 hz1 hz2
  go_enter Tryz.func235, Tryz.ntmps235
  go_wp2_with (first
    | (refine wpList_append_known _ rfl _ _ 115 3 rfl (.slice (some ⟨g, 0, none⟩) k l.length) (.int .i64 ((l.length : Int) + 1 - (k : Int))) rfl rfl H1.out ?_)
    | (refine wpList_copy_known _ rfl _ _ 115 115 rfl (.slice (some ⟨N, k * 3, none⟩) (l.length + 1 - k) (G - k)) (.slice (some ⟨g2, 0, none⟩) 1 c2) rfl rfl H2.out ?_))
  go_region_law (refine step_copy_known rfl _ _ 115 115 rfl (.slice (some ⟨N, (k + 1) * 3, none⟩) (l.length + 1 - (k + 1)) (G - (k + 1))) (.slice (some ⟨g, k * 3, none⟩) (l.length - k) (l.length - k)) (by simp [Act.eval, Act.put]) (by simp [Act.eval, Act.put]) H3.out ?_)
  go_wp2
  go_ret
  exact ⟨_, rfl, HF.out.1, HF.out.2⟩
end Go.Proofs.YtilkdeghknjjhaaGreatDoor
/- slices.Insert of one value, wherever; insert. -/
namespace Go.Proofs.YtilkdeghknjjhaaGreatDoor
open Go.RowKit M
set_option linter.unusedVariables false

theorem ownsRow_below {w w' : World} {B n : Nat} {e : TypeId} {size : Nat} {v : Value} {xs : List Value} (h : w.ownsRow B e size v n xs) (hb : Below w.heap.size w w') : w'.ownsRow B e size v n xs := by
  refine ⟨h.1, ?_⟩
  rcases h.2 with hn | ⟨g, cap, cur, rfl, h1, h2, rest⟩
  · exact .inl hn
  · exact .inr ⟨g, cap, cur, rfl, h1, (hb.block g (Array.getElem?_eq_some_iff.1 h2).1).trans h2, rest⟩

theorem Insert_any (B : Nat) (v : Value) (l : List Sb) (x : Sb) (g2 c2 k : Nat) (w : World) (hB : B ≤ w.heap.size) (hown : w.ownsRow B 122 3 v l.length (cellsS l)) (hl : l.length ≤ 1000) (hk : k ≤ l.length)
    (hne : v.ownBlock ≠ some g2) (hx : w.heap[g2]? = some (.cells #[Value.int .i64 x.n, Value.int .i64 x.c, Value.string x.v] 122 (0, 0))) :
    Calls Tryz.prog 235 #[v, .int .i64 (k : Int), .slice (some ⟨g2, 0, none⟩) 1 c2] w fun e w' => ∃ v', e = .returned v' ∧ w'.ownsRow B 122 3 v' (l.length + 1) (cellsS (put l k x)) ∧ Below B w w' := by
  by_cases he : k = l.length
  · subst he
    exact Insert_end B v l x g2 c2 w hB hown hl (fun j u hu => by rw [Addr.add_lit, cell_of_row _ _ _ _ _ _ hx]; simpa using hu)
  · rcases hown.2 with ⟨_, h0⟩ | ⟨g, cap, cur, rfl, h1, h2, h3, h4, h5, h6⟩
    · omega
    · have hne' : g2 ≠ g := by
        intro h
        subst h
        exact hne rfl
      by_cases hroom : l.length + 1 ≤ cap
      · exact Insert_shift B g cap cur.toList l x g2 c2 k w h1 hB (by simpa using h2) (by simpa using h5) (by simpa using h6) h4 hl (by omega) hroom hne' hx
      · exact Insert_grow B g cap cur.toList l x g2 c2 k w hB (by simpa using h2) (by simpa using h5) (by simpa using h6) h3 hl (by omega) (by omega) hx

/-- Where a value belongs. -/
def Place (l : List Sb) (x : Sb) (k : Nat) : Prop := k ≤ l.length ∧ (0 < k → cd (sb l (k - 1)) x < 0) ∧ (k < l.length → 0 ≤ cd (sb l k) x)
def InsEnd (B : Nat) (w : World) (l : List Sb) (x : Sb) (e : Ending) (w' : World) : Prop :=
  ∃ k v', e = .returned v' ∧ Place l x k ∧ w'.ownsRow B 122 3 v' (l.length + 1) (cellsS (put l k x)) ∧ Below B w w'

set_option maxRecDepth 40000 in
set_option maxHeartbeats 1600000 in
theorem insert_any (B : Nat) (v : Value) (l : List Sb) (x : Sb) (w : World) (hB : B ≤ w.heap.size) (hown : w.ownsRow B 122 3 v l.length (cellsS l)) (hl : l.length ≤ 1000) :
    Calls Tryz.prog 204 #[v, .agg #[.int .i64 x.n, .int .i64 x.c, .string x.v]] w fun e w' => InsEnd B w l x e w' := by
  have hlt := hown.lt
  go_enter Tryz.func204, Tryz.ntmps204
  go_wp2_with fail
  obtain ⟨W, hW, hb, t0, t1, t2⟩ : ∃ W, (w.alloc (.cells #[.int .i64 x.n, .int .i64 x.c, .string x.v] 122)) = W ∧ Below w.heap.size w W ∧
      W.cell? ⟨w.heap.size, 0, none⟩ = some (.int .i64 x.n) ∧ W.cell? ⟨w.heap.size, 1, none⟩ = some (.int .i64 x.c) ∧ W.cell? ⟨w.heap.size, 2, none⟩ = some (.string x.v) :=
    ⟨_, rfl, (Below.refl _ _).alloc (Nat.le_refl _) _, by simp [go_sem], by simp [go_sem], by simp [go_sem]⟩
  have hown1 : W.ownsRow B 122 3 v l.length (cellsS l) := ownsRow_below hown hb
  rw [hW]
  go_wp2_with fail
  refine (BinarySearch_any v l x W (RdS.own hown1 rfl) hl).mono ?_
  rintro e w1 ⟨k, f, rfl, hk, hk1, hk2, hb2⟩
  have e0 := cell_later hb2 t0
  have e1 := cell_later hb2 t1
  have e2 := cell_later hb2 t2
  have hown2 : w1.ownsRow B 122 3 v l.length (cellsS l) := ownsRow_below hown1 hb2
  have hs1 := hb.size
  have hs2 := hb2.size
  have hb3 : Below B w w1 := (hb.mono hB).trans (hb2.mono (by omega))
  have HP : Hid (Place l x k) := ⟨hk, hk1, hk2⟩
  have HO : Hid (w1.ownsRow B 122 3 v l.length (cellsS l)) := hown2
  have HL : Hid (∀ j, v.ownBlock = some j → B ≤ j ∧ j < w.heap.size) := hlt
  clear hown hown1 hown2 hlt t0 t1 t2 hW hk1 hk2
  go_wp2_with fail
  refine (Insert_any B v l x w1.heap.size _ k _ (by simp; omega) (HO.out.alloc _) hl hk (fun h => by have := (HL.out _ h).2; omega) (heap_alloc_new w1 _)).mono ?_
  rintro e w2 ⟨v', rfl, ho, hb4⟩
  go_wp2
  go_ret
  exact ⟨k, v', rfl, HP.out, ho, hb3.trans (((Below.refl _ _).alloc (by omega) _).trans hb4)⟩
end Go.Proofs.YtilkdeghknjjhaaGreatDoor
/- unseen. -/
namespace Go.Proofs.YtilkdeghknjjhaaGreatDoor
open Go.RowKit M
set_option linter.unusedVariables false

/-- The values that a clock has not seen. -/
def un (c : List (Int × Int)) (l : List Sb) : List Sb := l.filter fun x => ! decide (x.c ≤ cS c x.n)
theorem un_snoc (c : List (Int × Int)) (l : List Sb) (k : Nat) (h : k < l.length) : un c (l.take (k + 1)) = if (sb l k).c ≤ cS c (sb l k).n then un c (l.take k) else un c (l.take k) ++ [sb l k] := by
  have e : l.take (k + 1) = l.take k ++ [sb l k] := by rw [sb_get l k h, List.take_succ_eq_append_getElem h]
  rw [e]
  unfold un
  rw [List.filter_append]
  by_cases hs : (sb l k).c ≤ cS c (sb l k).n
  · rw [if_pos hs]; simp [hs]
  · rw [if_neg hs]; simp [hs]
theorem un_len (c : List (Int × Int)) (l : List Sb) (k : Nat) : (un c (l.take k)).length ≤ k :=
  Nat.le_trans (List.length_filter_le _ _) (by simp; omega)
theorem cells_three_new (w : World) (a b s : Value) (e : TypeId) : ∀ j u, [a, b, s][j]? = some u → (w.alloc (.cells #[a, b, s] e)).cell? ((⟨w.heap.size, 0, none⟩ : Addr).add j) = some u := by
  intro j u hu
  rw [Addr.add_lit, cell_of_row _ _ _ _ _ _ (heap_alloc_new w _)]
  simpa using hu

set_option maxRecDepth 40000 in
set_option maxHeartbeats 1600000 in
theorem unseen_any (v vc : Value) (l : List Sb) (c : List (Int × Int)) (w : World) (hrd : RdS w v l) (hrc : Rd w vc c) (hc : US c) (hl : l.length ≤ 1000) (hd : ∀ x ∈ l, 1 ≤ x.c) :
    Calls Tryz.prog 203 #[v, vc] w fun e w' => ∃ v', e = .returned v' ∧ w'.ownsRow w.heap.size 122 3 v' (un c l).length (cellsS (un c l)) ∧ Below w.heap.size w w' := by
  obtain ⟨i0, hi, hz0, hz1, hz2⟩ := info_parts Tryz.info122
  obtain ⟨a, cap, rfl, hlc, hcp, hA⟩ := hrd
  have hl1 : (l.length : Int) ≤ 1000 := by omega
  clear hlc hcp
  go_enter Tryz.func203, Tryz.ntmps203
  go_wp2
  go_loopw [5, 10] (fun p q wr => ∃ k : Nat, k ≤ l.length ∧ q = .int .i64 k ∧ wr.ownsRow w.heap.size 122 3 p (un c (l.take k)).length (cellsS (un c (l.take k))) ∧ Below w.heap.size w wr)
    (fun _ q _ => l.length - (intOf q).toNat)
  case atStart => exact ⟨0, Nat.zero_le _, rfl, World.ownsRow_nil _ _ _ _, Below.refl _ _⟩
  case round =>
    obtain ⟨k, hk, rfl, ho, hb⟩ := hrel
    have hsz := hb.size
    have hvl : ∃ a5 cap5, u5 = .slice a5 (un c (l.take k)).length cap5 := by
      rcases ho.2 with ⟨h1, h2⟩ | ⟨g, cap, cur, h1, _⟩
      · exact ⟨none, 0, by rw [h1, h2]⟩
      · exact ⟨_, _, h1⟩
    obtain ⟨a5, cap5, rfl⟩ := hvl
    by_cases hlt : k < l.length
    · obtain ⟨b, off, rfl, hr⟩ := hA (by omega)
      have q1 : (k : Int) < (l.length : Int) := by omega
      have q0 : (0 : Int) ≤ (k : Int) := by omega
      have e0 := cell_later hb (hr k hlt).1
      have e1 := cell_later hb (hr k hlt).2.1
      have e2 := cell_later hb (hr k hlt).2.2
      have hx1 : 1 ≤ (sb l k).c := by rw [sb_get l k hlt]; exact hd _ (List.getElem_mem hlt)
      have hlen := un_len c l k
      have hs := un_snoc c l k hlt
      have HS : Hid (un c (l.take (k + 1)) = if (sb l k).c ≤ cS c (sb l k).n then un c (l.take k) else un c (l.take k) ++ [sb l k]) := hs
      obtain ⟨x, hx⟩ : ∃ x, sb l k = x := ⟨_, rfl⟩
      rw [hx] at e0 e1 e2 hx1 HS
      obtain ⟨U, hU⟩ : ∃ U, un c (l.take k) = U := ⟨_, rfl⟩
      rw [hU] at ho hlen HS
      obtain ⟨m, hm⟩ : ∃ m, U.length = m := ⟨_, rfl⟩
      rw [hm] at ho hlen
      rw [hU, hm]
      clear hA hr hs hx hU
      go_wp2_with fail
      have hbW := hb.alloc hsz (.cells #[.int .i64 x.n, .int .i64 x.c, .string x.v] 122)
      have hoW := ho.alloc (.cells #[.int .i64 x.n, .int .i64 x.c, .string x.v] 122)
      obtain ⟨W, hW, t0, t1, t2⟩ : ∃ W, (wr.alloc (.cells #[.int .i64 x.n, .int .i64 x.c, .string x.v] 122)) = W ∧
          W.cell? ⟨wr.heap.size, 0, none⟩ = some (.int .i64 x.n) ∧ W.cell? ⟨wr.heap.size, 1, none⟩ = some (.int .i64 x.c) ∧ W.cell? ⟨wr.heap.size, 2, none⟩ = some (.string x.v) :=
        ⟨_, rfl, by simp [go_sem], by simp [go_sem], by simp [go_sem]⟩
      rw [hW] at hbW hoW
      rw [hW]
      refine (seen_any vc c x.n x.c W (hrc.below hbW) hc hx1).mono ?_
      rintro e w1 ⟨rfl, hb2⟩
      have f0 := cell_later hb2 t0
      have f1 := cell_later hb2 t1
      have f2 := cell_later hb2 t2
      have ho1 := ownsRow_below hoW hb2
      have hb1 : Below w.heap.size w w1 := hbW.trans (hb2.mono hbW.size)
      have hs1 := hb1.size
      clear e0 e1 e2 t0 t1 t2 hW hbW hoW ho hb hb2
      by_cases hsn : x.c ≤ cS c x.n
      · have HU : Hid (un c (l.take (k + 1)) = U) := by
          show _ = _
          rw [HS.out, if_pos hsn]
        have gd : decide (x.c ≤ cS c x.n) = true := by simpa using hsn
        rw [gd]
        clear gd hsn HS
        go_wp2
        go_roundw
        case rel => exact ⟨k + 1, by omega, by go_num, by rw [HU.out, hm]; exact ho1, hb1⟩
        case measure => simp [intOf]; omega
      · have HU : Hid (un c (l.take (k + 1)) = U ++ [x]) := by
          show _ = _
          rw [HS.out, if_neg hsn]
        have gd : decide (x.c ≤ cS c x.n) = false := by simpa using hsn
        rw [gd]
        clear gd hsn HS
        go_wp2_with (first
          | (at_builtin; refine wpList_append_own _ rfl _ _ 115 rfl w.heap.size 122 i0 (.agg #[.int .i64 0, .int .i64 0, .string ByteArray.empty]) 3 32 Tryz.underlying115 hi hz0 hz1 hz2 rfl (by decide) _ _ _ rfl (ho1.alloc _) ⟨w1.heap.size, 0, none⟩ 1 1 [.int .i64 x.n, .int .i64 x.c, .string x.v] rfl rfl ?c1 ?c2 ?c3 ?c4 ?c5 ?_))
        case c1 => exact cells_three_new _ _ _ _ _
        case c2 => intro u hu; simp at hu; rcases hu with rfl | rfl | rfl <;> rfl
        case c3 => unfold maxLen; omega
        case c4 => omega
        case c5 => simp; omega
        · intro v' w2 hown' hgrow _
          have hb3 : Below w.heap.size w w2 := (hb1.alloc (by omega) _).grown hgrow (by simp; omega) (fun q hq => (ho1.lt q hq).1)
          go_wp2
          go_roundw
          case rel => exact ⟨k + 1, by omega, by go_num, by rw [HU.out, List.length_append, cellsS_snoc, hm]; exact hown', hb3⟩
          case measure => simp [intOf]; omega
    · have he : k = l.length := by omega
      subst he
      rw [List.take_length] at ho
      rw [List.take_length]
      clear hA
      go_wp2
      go_ret
      exact ⟨_, rfl, ho, hb⟩
end Go.Proofs.YtilkdeghknjjhaaGreatDoor
/- isSet. -/
namespace Go.Proofs.YtilkdeghknjjhaaGreatDoor
open Go.RowKit Go.Sort M
set_option linter.unusedVariables false

/-- The first values of a list are in order, and their dots are seen. -/
def UpS (c : List (Int × Int)) (l : List Sb) (m : Nat) : Prop := ∀ k, k < m → Dot (sb l k).n (sb l k).c ∧ (sb l k).c ≤ cS c (sb l k).n ∧ (sb l k).v.size ≤ 200 ∧ (0 < k → cd (sb l (k - 1)) (sb l k) < 0)
def SetOK (c : List (Int × Int)) (l : List Sb) : Prop := Clk c ∧ l.length ≤ 6 ∧ UpS c l l.length
theorem UpS.succ {c : List (Int × Int)} {l : List Sb} {m : Nat} (h : UpS c l m) (h1 : Dot (sb l m).n (sb l m).c) (h2 : (sb l m).c ≤ cS c (sb l m).n) (h3 : (sb l m).v.size ≤ 200) (h4 : 0 < m → cd (sb l (m - 1)) (sb l m) < 0) : UpS c l (m + 1) := by
  intro k hk
  by_cases e : k = m
  · subst e; exact ⟨h1, h2, h3, h4⟩
  · exact h k (by omega)
def BoolEnd (P : Prop) (w : World) (e : Ending) (w' : World) : Prop := ∃ r, e = .returned (.bool r) ∧ (r = true ↔ P) ∧ Below w.heap.size w w'
theorem clk_us' {l : List (Int × Int)} (h : Clk l) : US l := ((clk_iff l).1 h).2
theorem BoolEnd.no {P : Prop} {w w' : World} (h : ¬ P) (hb : Below w.heap.size w w') : BoolEnd P w (.returned (.bool false)) w' := ⟨false, rfl, by simp [h], hb⟩
theorem BoolEnd.yes {P : Prop} {w w' : World} (h : P) (hb : Below w.heap.size w w') : BoolEnd P w (.returned (.bool true)) w' := ⟨true, rfl, by simp [h], hb⟩

set_option maxRecDepth 40000 in
set_option maxHeartbeats 1600000 in
theorem isSet_any (vc v : Value) (c : List (Int × Int)) (l : List Sb) (w : World) (hrc : Rd w vc c) (hrd : RdS w v l) :
    Calls Tryz.prog 201 #[.agg #[vc, v]] w fun e w' => BoolEnd (SetOK c l) w e w' := by
  obtain ⟨a, cap, rfl⟩ := hrd.shape
  go_enter Tryz.func201, Tryz.ntmps201
  go_wp2_with fail
  obtain ⟨W, hW, hb, t0, t1⟩ : ∃ W, (w.alloc (.cells #[vc, .slice a l.length cap] 117)) = W ∧ Below w.heap.size w W ∧
      W.cell? ⟨w.heap.size, 0, none⟩ = some vc ∧ W.cell? ⟨w.heap.size, 1, none⟩ = some (.slice a l.length cap) :=
    ⟨_, rfl, (Below.refl _ _).alloc (Nat.le_refl _) _, by simp [go_sem], by simp [go_sem]⟩
  rw [hW]
  refine (isClock_any vc c W (hrc.below hb)).mono ?_
  rintro e w1 ⟨r, rfl, hr, hb2⟩
  have hb1 : Below w.heap.size w w1 := hb.trans (hb2.mono hb.size)
  have e0 := cell_later hb2 t0
  have e1 := cell_later hb2 t1
  have hrd1 := hrd.below hb1
  have hrc1 := hrc.below hb1
  have hs1 := hb1.size
  clear t0 t1 hW hb hb2 hrc hrd
  cases r
  · have HN : Hid (¬ SetOK c l) := fun h => Bool.noConfusion (hr.2 h.1)
    clear hr hrd1 hrc1
    go_wp2
    go_ret
    exact BoolEnd.no HN.out hb1
  have hk : Clk c := hr.1 rfl
  have HK : Hid (Clk c) := hk
  clear hr hk
  rcases Nat.lt_or_ge 6 l.length with h6 | h6
  · have h6' : (6 : Int) < (l.length : Int) := by omega
    have HN : Hid (¬ SetOK c l) := fun h => Nat.not_le_of_lt h6 h.2.1
    clear hrd1 hrc1
    go_wp2
    go_ret
    exact BoolEnd.no HN.out hb1
  have h6' : ¬ (6 : Int) < (l.length : Int) := by omega
  have h7 : (l.length : Int) ≤ 6 := by omega
  obtain ⟨a', cap', hv, _, _, hA⟩ := hrd1
  obtain ⟨rfl, -, rfl⟩ : a = a' ∧ l.length = l.length ∧ cap = cap' := by simpa using hv
  clear hv
  have HE : Hid (w1.cell? ⟨w.heap.size, 0, none⟩ = some vc ∧ w1.cell? ⟨w.heap.size, 1, none⟩ = some (.slice a l.length cap)) := ⟨e0, e1⟩
  have HA : Hid (0 < l.length → ∃ b off, a = some ⟨b, off, none⟩ ∧ ∀ j, j < l.length → w1.cell? ⟨b, off + j * 3, none⟩ = some (.int .i64 (sb l j).n) ∧ w1.cell? ⟨b, off + j * 3 + 1, none⟩ = some (.int .i64 (sb l j).c) ∧ w1.cell? ⟨b, off + j * 3 + 2, none⟩ = some (.string (sb l j).v)) := hA
  have HC : Hid (Rd w1 vc c) := hrc1
  clear hA hrc1
  go_wp2
  clear e0 e1
  go_loopw [18] (fun q wr => ∃ k : Nat, k ≤ l.length ∧ q = .int .i64 k ∧ Hid (UpS c l k) ∧ Below w1.heap.size w1 wr)
    (fun q _ => l.length - (intOf q).toNat)
  case atStart => exact ⟨0, Nat.zero_le _, rfl, fun k hk => absurd hk (Nat.not_lt_zero k), Below.refl _ _⟩
  case round =>
    obtain ⟨k, hk, rfl, hu, hbr⟩ := hrel
    have hsz := hbr.size
    have g0 := cell_later hbr HE.out.1
    have g1 := cell_later hbr HE.out.2
    by_cases hlt : k < l.length
    · obtain ⟨b, off, rfl, hr⟩ := HA.out (by omega)
      have q1 : (k : Int) < (l.length : Int) := by omega
      have q0 : (0 : Int) ≤ (k : Int) := by omega
      have e0 := cell_later hbr (hr k hlt).1
      have e1 := cell_later hbr (hr k hlt).2.1
      have e2 := cell_later hbr (hr k hlt).2.2
      obtain ⟨x, hx⟩ : ∃ x, sb l k = x := ⟨_, rfl⟩
      rw [hx] at e0 e1 e2
      have HX : Hid (sb l k = x) := hx
      have HR : Hid (0 < k → wr.cell? ⟨b, off + (k - 1) * 3, none⟩ = some (.int .i64 (sb l (k - 1)).n) ∧ wr.cell? ⟨b, off + (k - 1) * 3 + 1, none⟩ = some (.int .i64 (sb l (k - 1)).c) ∧ wr.cell? ⟨b, off + (k - 1) * 3 + 2, none⟩ = some (.string (sb l (k - 1)).v)) :=
        fun _ => ⟨cell_later hbr (hr (k - 1) (by omega)).1, cell_later hbr (hr (k - 1) (by omega)).2.1, cell_later hbr (hr (k - 1) (by omega)).2.2⟩
      clear hr hx
      go_wp2_with fail
      obtain ⟨W2, hW2, hbW, t0, t1, t2⟩ : ∃ W2, (wr.alloc (.cells #[.int .i64 x.n, .int .i64 x.c, .string x.v] 122)) = W2 ∧ Below wr.heap.size wr W2 ∧
          W2.cell? ⟨wr.heap.size, 0, none⟩ = some (.int .i64 x.n) ∧ W2.cell? ⟨wr.heap.size, 1, none⟩ = some (.int .i64 x.c) ∧ W2.cell? ⟨wr.heap.size, 2, none⟩ = some (.string x.v) :=
        ⟨_, rfl, (Below.refl _ _).alloc (Nat.le_refl _) _, by simp [go_sem], by simp [go_sem], by simp [go_sem]⟩
      rw [hW2]
      have g0' := cell_later hbW g0
      have g1' := cell_later hbW g1
      have hb2 : Below w1.heap.size w1 W2 := hbr.trans (hbW.mono hsz)
      have hs2 := hbW.size
      refine (isDot_any x.n x.c W2).mono ?_
      rintro e w2 ⟨rfl, rfl⟩
      clear hW2 e0 e1 e2 g0 g1
      rcases (Decidable.em (dotB x.n x.c = true)).symm with hd | hd
      · have HN : Hid (¬ SetOK c l) := fun h => hd ((dotB_iff _ _).2 (HX.out ▸ (h.2.2 k hlt).1))
        have hd' : dotB x.n x.c = false := by simpa using hd
        rw [hd']
        clear hd hd'
        go_wp2
        go_ret
        exact BoolEnd.no HN.out (hb1.trans (hb2.mono hs1))
      have HD : Hid (Dot x.n x.c) := (dotB_iff _ _).1 hd
      rw [hd]
      clear hd
      go_wp2_with fail
      refine (seen_any vc c x.n x.c w2 (HC.out.below hb2) (clk_us' HK.out) HD.out.2.2.1).mono ?_
      rintro e w3 ⟨rfl, hb3⟩
      have f0 := cell_later hb3 t0
      have f1 := cell_later hb3 t1
      have f2 := cell_later hb3 t2
      have g0'' := cell_later hb3 g0'
      have g1'' := cell_later hb3 g1'
      have hb4 : Below w1.heap.size w1 w3 := hb2.trans (hb3.mono (by omega))
      have hb5 : Below wr.heap.size wr w3 := hbW.trans (hb3.mono hs2)
      have hs4 := hb4.size
      clear t0 t1 t2 g0' g1'
      rcases (Decidable.em (x.c ≤ cS c x.n)).symm with hsn | hsn
      · have HN : Hid (¬ SetOK c l) := fun h => hsn (HX.out ▸ (h.2.2 k hlt).2.1)
        have gd : decide (x.c ≤ cS c x.n) = false := by simpa using hsn
        rw [gd]
        clear gd hsn
        go_wp2
        go_ret
        exact BoolEnd.no HN.out (hb1.trans (hb4.mono hs1))
      have HSN : Hid (x.c ≤ cS c x.n) := hsn
      have gd : decide (x.c ≤ cS c x.n) = true := by simpa using hsn
      rw [gd]
      clear gd hsn
      rcases (Decidable.em (x.v.size ≤ 200)).symm with h200 | h200
      · have HN : Hid (¬ SetOK c l) := fun h => h200 (HX.out ▸ (h.2.2 k hlt).2.2.1)
        have gd : (200 : Int) < (x.v.size : Int) := by omega
        clear h200
        go_wp2
        go_ret
        exact BoolEnd.no HN.out (hb1.trans (hb4.mono hs1))
      have gv : ¬ (200 : Int) < (x.v.size : Int) := by omega
      by_cases h0 : 0 < k
      · have k1 : (0 : Int) < (k : Int) := by omega
        have k2 : (0 : Int) ≤ (k : Int) - 1 := by omega
        have k3 : (k : Int) - 1 < (l.length : Int) := by omega
        have k4 : ((k : Int) - 1).toNat = k - 1 := by omega
        have k6 : (1 : Int) ≤ (k : Int) := by omega
        have k5 : IntKind.i64.wrap ((k : Int) - 1) = (k : Int) - 1 := by rw [IntKind.wrap_i64]; omega
        have gd : decide ((0 : Int) < (k : Int)) = true := by simp; omega
        have p0 := cell_regrown (cell_later hb5 (HR.out h0).1)
        have p1 := cell_regrown (cell_later hb5 (HR.out h0).2.1)
        have p2 := cell_regrown (cell_later hb5 (HR.out h0).2.2)
        have f0r := cell_regrown f0
        have f1r := cell_regrown f1
        have f2r := cell_regrown f2
        have g1r := cell_regrown g1''
        have HCC : Hid (∀ d os, Calls Tryz.prog 233 #[.agg #[.int .i64 (sb l (k - 1)).n, .int .i64 (sb l (k - 1)).c, .string (sb l (k - 1)).v], .agg #[.int .i64 x.n, .int .i64 x.c, .string x.v]] (grow (redrawn w3 d) os) fun e w'' => e = .returned (.int .i64 (cd (sb l (k - 1)) x)) ∧ ∃ p : Regrown, w'' = grow (redrawn w3 p.d) p.os) :=
          fun d os => Calls.regrown_of (compareDots_any _ _ _ _ _ _ _)
        obtain ⟨y, hy⟩ : ∃ y, sb l (k - 1) = y := ⟨_, rfl⟩
        have HY : Hid (sb l (k - 1) = y) := hy
        rw [hy] at p0 p1 p2 HCC
        obtain ⟨r, hr2⟩ : ∃ r, cd y x = r := ⟨_, rfl⟩
        have HRR : Hid (cd y x = r) := hr2
        rw [hr2] at HCC
        clear hr2 hy
        go_wp2_with fail
        refine wp_region_quiet_below (by kernel_rfl) (by kernel_rfl) ?_
        repeat (quiet_step (first | (go_at_call 233; exact HCC.out _ _)))
        refine wpQuiet_nil ?_
        intro _ hw'
        obtain ⟨⟨dq, osq⟩, hw''⟩ := hw'
        subst hw''
        by_cases hneg : r < 0
        · have gn : decide (0 ≤ r) = false := by simp; omega
          go_wp2
          go_roundw
          case rel => exact ⟨k + 1, by omega, by go_num, hu.out.succ (HX.out.symm ▸ HD.out) (HX.out.symm ▸ HSN.out) (HX.out.symm ▸ h200) (fun _ => by rw [HX.out, HY.out, HRR.out]; exact hneg), hb4.trans ((below_regrown w3 dq osq).mono hs4)⟩
          case measure => simp [intOf]; omega
        · have gn : decide (0 ≤ r) = true := by simp; omega
          have HN : Hid (¬ SetOK c l) := fun h => hneg (by have := (h.2.2 k hlt).2.2.2 h0; rw [HX.out, HY.out, HRR.out] at this; exact this)
          go_wp2
          go_ret
          exact BoolEnd.no HN.out (hb1.trans ((hb4.trans ((below_regrown w3 dq osq).mono hs4)).mono hs1))
      · have gd : decide ((0 : Int) < (k : Int)) = false := by simp; omega
        go_wp2_with fail
        go_quiet (fail)
        go_wp2
        go_roundw
        case rel => exact ⟨k + 1, by omega, by go_num, hu.out.succ (HX.out.symm ▸ HD.out) (HX.out.symm ▸ HSN.out) (HX.out.symm ▸ h200) (fun h => absurd h h0), (by repeat (first | exact hb4 | refine below_drewN ?_ _ | refine Below.drew ?_))⟩
        case measure => simp [intOf]; omega
    · have he : k = l.length := by omega
      subst he
      go_wp2
      go_ret
      exact BoolEnd.yes ⟨HK.out, h6, hu.out⟩ (hb1.trans (hbr.mono hs1))
end Go.Proofs.YtilkdeghknjjhaaGreatDoor
/- Discard. -/
namespace Go.Proofs.YtilkdeghknjjhaaGreatDoor
open Go.RowKit M
set_option linter.unusedVariables false

theorem info38 : (Tryz.prog.info? 117).map (·.size) = some 2 := by kernel_rfl
theorem results27 (tmps : Array Value) (w : World) (g : Nat) (v1 v2 : Value) (n : Int) (h2 : tmps.getD 4 undef = .pointer (some ⟨g, 0, none⟩)) (h3 : tmps.getD 5 undef = .int .i64 n) (hg : w.heap[g]? = some (.cells #[v1, v2] 117 (0, 0))) :
    (results Tryz.f154 tmps).run Tryz.prog w = .ok (.tuple #[.agg #[v1, v2], .int .i64 n]) w := by
  have hl := run_loadVar_row (P := Tryz.prog) w g 117 117 #[v1, v2] (0, 0) _ hg Tryz.underlying117 rfl info38
  have h2' : tmps[4]?.getD undef = .pointer (some ⟨g, 0, none⟩) := by simpa using h2
  have h3' : tmps[5]?.getD undef = .int .i64 n := by simpa using h3
  simp [results, Tryz.results154, h2', h3', asAddr, hl]
/-- The place of a result, as it is made. -/
def nilSet : Array Value := #[.slice none 0 0, .slice none 0 0]
theorem one_two (a : Option Addr) (n c : Nat) (a' : Option Addr) (n' c' : Nat) : (#[Value.slice a n c, Value.slice a' n' c'] : Array Value).all (·.oneCell') = true := by simp [Value.oneCell']
theorem one_nilSet : nilSet.all (·.oneCell') = true := one_two _ _ _ _ _ _
theorem own_shape {w : World} {B n : Nat} {e : TypeId} {size : Nat} {v : Value} {xs : List Value} (h : w.ownsRow B e size v n xs) : ∃ a cap, v = .slice a n cap := by
  rcases h.2 with ⟨h1, h2⟩ | ⟨g, cap, cur, h1, _⟩
  · exact ⟨none, 0, by rw [h1, h2]⟩
  · exact ⟨_, _, h1⟩
theorem heap_later {w w' : World} {k : Nat} {o : Obj} (hb : Below w.heap.size w w') (h : w.heap[k]? = some o) : w'.heap[k]? = some o :=
  (hb.block k (Array.getElem?_eq_some_iff.1 h).1).trans h

/-- A store into a row of another type leaves a row as it is. -/
theorem own_setRow {w : World} {B n k : Nat} {e t : TypeId} {size : Nat} {v : Value} {xs : List Value} {old new : Array Value} (h : w.ownsRow B e size v n xs) (hk : w.heap[k]? = some (.cells old t (0, 0))) (hne : e ≠ t) : (w.setRow k new).ownsRow B e size v n xs := by
  refine ⟨h.1, ?_⟩
  rcases h.2 with hn | ⟨g, cap, cur, rfl, h1, h2, rest⟩
  · exact .inl hn
  · refine .inr ⟨g, cap, cur, rfl, h1, ?_, rest⟩
    rw [setRow_other w k g new (fun hh => by subst hh; rw [hk] at h2; simp at h2; exact hne h2.2.symm)]
    exact h2

/-- What is handed back with an error. -/
def setErr (n : Int) : Ending := .returned (.tuple #[.agg #[.slice none 0 0, .slice none 0 0], .int .i64 n])
/-- A set of the call's own is handed back. -/
def setOut (w : World) (c : List (Int × Int)) (l : List Sb) (e : Ending) (w' : World) : Prop :=
  ∃ v1 v2, e = .returned (.tuple #[.agg #[v1, v2], .int .i64 0]) ∧ w'.ownsRow w.heap.size 183 2 v1 c.length (cellsE c) ∧ w'.ownsRow w.heap.size 122 3 v2 l.length (cellsS l)
def DisEnd (w : World) (sc c : List (Int × Int)) (l : List Sb) (e : Ending) (w' : World) : Prop :=
  Below w.heap.size w w' ∧
  ((¬ (SetOK sc l ∧ Clk c) ∧ e = setErr 1) ∨
   (SetOK sc l ∧ Clk c ∧ 8 < (jn [sc, c]).length ∧ e = setErr 5) ∨
   (SetOK sc l ∧ Clk c ∧ (jn [sc, c]).length ≤ 8 ∧ setOut w (jn [sc, c]) (un c l) e w'))

set_option maxRecDepth 40000 in
set_option maxHeartbeats 1600000 in
theorem Discard_any (vs v vc : Value) (sc c : List (Int × Int)) (l : List Sb) (w : World) (hrs : Rd w vs sc) (hrd : RdS w v l) (hrc : Rd w vc c) :
    Calls Tryz.prog 154 #[.agg #[vs, v], vc] w fun e w' => DisEnd w sc c l e w' := by
  obtain ⟨ps, caps, rfl⟩ := hrs.shape
  obtain ⟨a, cap, rfl⟩ := hrd.shape
  obtain ⟨ac, capc, rfl⟩ := hrc.shape
  go_enter Tryz.func154, Tryz.ntmps154
  go_wp2_with fail
  obtain ⟨W, hW, hb, t0, t1, rg⟩ : ∃ W, ((w.alloc (.cells #[.slice ps sc.length caps, .slice a l.length cap] 117)).alloc (.cells #[.slice none 0 0, .slice none 0 0] 117)) = W ∧ Below w.heap.size w W ∧
      W.cell? ⟨w.heap.size, 0, none⟩ = some (.slice ps sc.length caps) ∧ W.cell? ⟨w.heap.size, 1, none⟩ = some (.slice a l.length cap) ∧
      W.heap[w.heap.size + 1]? = some (.cells nilSet 117 (0, 0)) :=
    ⟨_, rfl, ((Below.refl _ _).alloc (Nat.le_refl _) _).alloc (by simp) _, by simp [go_sem], by simp [go_sem], heap_alloc2_new w _ _⟩
  rw [hW]
  refine (isSet_any _ _ sc l W (hrs.below hb) (hrd.below hb)).mono ?_
  rintro e w1 ⟨r, rfl, hr, hb2⟩
  have hb1 : Below w.heap.size w w1 := hb.trans (hb2.mono hb.size)
  have e0 := cell_later hb2 t0
  have e1 := cell_later hb2 t1
  have HG : Hid (w1.heap[w.heap.size + 1]? = some (.cells nilSet 117 (0, 0))) := heap_later hb2 rg
  have hrd1 := hrd.below hb1
  have hrs1 := hrs.below hb1
  have hrc1 := hrc.below hb1
  have hs1 := hb1.size
  clear t0 t1 rg hW hb hb2 hrc hrd hrs
  cases r
  · have HN : Hid (¬ (SetOK sc l ∧ Clk c)) := fun h => Bool.noConfusion (hr.2 h.1)
    clear hr hrd1 hrc1 hrs1
    go_wp2_with (first
      | (refine wpList_store_row rfl 117 _ _ rfl (w.heap.size + 1) nilSet rfl rfl 117 nilSet HG.out info38 rfl one_nilSet ?_))
    refine bodyPost_ret (results27 _ _ (w.heap.size + 1) _ _ 1 rfl rfl (setRow_heap _ _ _ _ _ _ HG.out)) rfl ⟨below_setRow hb1 (by omega) _, .inl ⟨HN.out, rfl⟩⟩
  have hk : SetOK sc l := hr.1 rfl
  have HK : Hid (SetOK sc l) := hk
  clear hr hk
  go_wp2_with fail
  refine (isClock_any _ c w1 hrc1).mono ?_
  rintro e w2 ⟨r, rfl, hr, hb2⟩
  have hb3 : Below w.heap.size w w2 := hb1.trans (hb2.mono hs1)
  have f0 := cell_later hb2 e0
  have f1 := cell_later hb2 e1
  have HG2 : Hid (w2.heap[w.heap.size + 1]? = some (.cells nilSet 117 (0, 0))) := heap_later hb2 HG.out
  have hrd2 := hrd1.below hb2
  have hrs2 := hrs1.below hb2
  have hrc2 := hrc1.below hb2
  have hs2 := hb3.size
  clear hb2 hrd1 hrs1 hrc1 HG e0 e1 hs1 hb1
  cases r
  · have HN : Hid (¬ (SetOK sc l ∧ Clk c)) := fun h => Bool.noConfusion (hr.2 h.2)
    clear hr hrd2 hrc2 hrs2
    go_wp2_with (first
      | (refine wpList_store_row rfl 117 _ _ rfl (w.heap.size + 1) nilSet rfl rfl 117 nilSet HG2.out info38 rfl one_nilSet ?_))
    refine bodyPost_ret (results27 _ _ (w.heap.size + 1) _ _ 1 rfl rfl (setRow_heap _ _ _ _ _ _ HG2.out)) rfl ⟨below_setRow hb3 (by omega) _, .inl ⟨HN.out, rfl⟩⟩
  have hk : Clk c := hr.1 rfl
  have HK2 : Hid (Clk c) := hk
  clear hr hk
  go_wp2_with fail
  have hba : Below w2.heap.size w2 (w2.alloc (.cells #[.slice ps sc.length caps, .slice ac c.length capc] 109)) := (Below.refl _ _).alloc (Nat.le_refl _) _
  refine (join_any w2.heap.size 2 [sc, c] _ rfl (by decide) (fun j hj => ?_)).mono ?_
  · match j, hj with
    | 0, _ => exact ⟨_, by simp [go_sem], hrs2.below hba, HK.out.1.2⟩
    | 1, _ => exact ⟨_, by simp [go_sem], hrc2.below hba, HK2.out.2⟩
  rintro e w3 ⟨hb4, ⟨h8, rfl⟩ | ⟨h8, v3, rfl, ho⟩⟩
  · have hb5 := hb3.trans ((hba.trans (hb4.mono (by simp))).mono hs2)
    have HG3 : Hid (w3.heap[w.heap.size + 1]? = some (.cells nilSet 117 (0, 0))) := heap_later (hba.trans (hb4.mono (by simp))) HG2.out
    have H8 : Hid (8 < (jn [sc, c]).length) := h8
    clear h8 hba hb4 hrs2 hrc2 hrd2 HG2
    go_wp2_with (first
      | (refine wpList_store_row rfl 117 _ _ rfl (w.heap.size + 1) nilSet rfl rfl 117 nilSet HG3.out info38 rfl one_nilSet ?_))
    refine bodyPost_ret (results27 _ _ (w.heap.size + 1) _ _ 5 rfl rfl (setRow_heap _ _ _ _ _ _ HG3.out)) rfl ⟨below_setRow hb5 (by omega) _, .inr (.inl ⟨HK.out, HK2.out, H8.out, rfl⟩)⟩
  · have hb6 := hba.trans (hb4.mono (by simp))
    have hb5 := hb3.trans (hb6.mono hs2)
    have HG3 : Hid (w3.heap[w.heap.size + 1]? = some (.cells nilSet 117 (0, 0))) := heap_later hb6 HG2.out
    have H8 : Hid ((jn [sc, c]).length ≤ 8) := h8
    have g0 := cell_later hb6 f0
    have g1 := cell_later hb6 f1
    have hrd3 := hrd2.below hb6
    have hrc3 := hrc2.below hb6
    have hs3 := hb5.size
    have ho2 := own_base (B := w.heap.size) ho (by simp; omega)
    obtain ⟨a3, cap3, rfl⟩ := own_shape ho2
    have HO : Hid (w3.ownsRow w.heap.size 183 2 (.slice a3 (jn [sc, c]).length cap3) (jn [sc, c]).length (cellsE (jn [sc, c]))) := ho2
    clear h8 hba hb4 hrs2 hrc2 hrd2 HG2 ho ho2 hb6 f0 f1
    go_wp2_with fail
    refine (unseen_any _ _ l c w3 hrd3 hrc3 (clk_us' HK2.out) (by have := HK.out.2.1; omega) (fun x hx => by
      obtain ⟨i, hi, rfl⟩ := List.getElem_of_mem hx
      have := (HK.out.2.2 i hi).1.2.2.1
      rw [sb_get l i hi] at this
      exact this)).mono ?_
    rintro e w4 ⟨v4, rfl, ho4, hb7⟩
    have hb8 := hb5.trans (hb7.mono hs3)
    have HG4 : Hid (w4.heap[w.heap.size + 1]? = some (.cells nilSet 117 (0, 0))) := heap_later hb7 HG3.out
    have ho5 := ownsRow_below HO.out hb7
    have ho6 := own_base (B := w.heap.size) ho4 hs3
    obtain ⟨a4, cap4, rfl⟩ := own_shape ho6
    have HO5 : Hid (w4.ownsRow w.heap.size 183 2 (.slice a3 (jn [sc, c]).length cap3) (jn [sc, c]).length (cellsE (jn [sc, c]))) := ho5
    have HO6 : Hid (w4.ownsRow w.heap.size 122 3 (.slice a4 (un c l).length cap4) (un c l).length (cellsS (un c l))) := ho6
    clear hb7 ho4 ho5 ho6 g0 g1 hrd3 hrc3
    go_wp2_with (first
      | (refine wpList_store_row rfl 117 _ _ rfl (w.heap.size + 1) #[.slice a3 (jn [sc, c]).length cap3, .slice a4 (un c l).length cap4] rfl rfl 117 nilSet HG4.out info38 rfl (one_two _ _ _ _ _ _) ?_))
    refine bodyPost_ret (results27 _ _ (w.heap.size + 1) _ _ 0 rfl rfl (setRow_heap _ _ _ _ _ _ HG4.out)) rfl ⟨below_setRow hb8 (by omega) _, .inr (.inr ⟨HK.out, HK2.out, H8.out, _, _, rfl, ?_, ?_⟩)⟩
    · exact own_setRow HO5.out HG4.out (by decide)
    · exact own_setRow HO6.out HG4.out (by decide)
end Go.Proofs.YtilkdeghknjjhaaGreatDoor
/- Zones: the blocks that a part of the world may turn, and what is new. Nothing of the program is named here. -/
namespace Go.Proofs.YtilkdeghknjjhaaGreatDoor
open Go.RowKit
set_option linter.unusedVariables false

/-- What a zone's owner has done: all blocks outside are as they were. -/
structure Tr (Z : Nat → Prop) (w w' : World) : Prop where
  os : w'.os = w.os
  tape : w'.tape = w.tape
  output : w'.output = w.output
  size : w.heap.size ≤ w'.heap.size
  block : ∀ k, k < w.heap.size → ¬ Z k → w'.heap[k]? = w.heap[k]?

/-- A zone that holds all that is new. -/
def Opn (Z : Nat → Prop) (w : World) : Prop := ∀ k, w.heap.size ≤ k → Z k

theorem Tr.refl (Z : Nat → Prop) (w : World) : Tr Z w w := ⟨rfl, rfl, rfl, Nat.le_refl _, fun _ _ _ => rfl⟩
theorem Tr.trans {Z : Nat → Prop} {a b c : World} (h : Tr Z a b) (k : Tr Z b c) : Tr Z a c :=
  ⟨k.os.trans h.os, k.tape.trans h.tape, k.output.trans h.output, Nat.le_trans h.size k.size, fun i hi hz => (k.block i (Nat.lt_of_lt_of_le hi h.size) hz).trans (h.block i hi hz)⟩
theorem Tr.mono {Z Y : Nat → Prop} {w w' : World} (h : Tr Z w w') (hs : ∀ k, k < w.heap.size → Z k → Y k) : Tr Y w w' :=
  ⟨h.os, h.tape, h.output, h.size, fun k hk hz => h.block k hk (fun hh => hz (hs k hk hh))⟩
theorem below_tr {w w' : World} (h : Below w.heap.size w w') (Z : Nat → Prop) : Tr Z w w' := ⟨h.os, h.tape, h.output, h.size, fun k hk _ => h.block k hk⟩
theorem Tr.below {Z : Nat → Prop} {w w' : World} (h : Tr Z w w') {B : Nat} (hB : B ≤ w.heap.size) (hz : ∀ k, k < B → ¬ Z k) : Below B w w' :=
  ⟨h.os, h.tape, h.output, h.size, fun k hk => h.block k (by omega) (hz k hk)⟩
theorem Opn.tr {Z : Nat → Prop} {w w' : World} (h : Opn Z w) (t : Tr Z w w') : Opn Z w' := fun k hk => h k (Nat.le_trans t.size hk)
theorem Opn.size {Z : Nat → Prop} {w w' : World} (h : Opn Z w) (t : w.heap.size ≤ w'.heap.size) : Opn Z w' := fun k hk => h k (Nat.le_trans t hk)
/-- The zone that is opened at a world: what it was, and all that is new. -/
def Zn (Z : Nat → Prop) (n : Nat) : Nat → Prop := fun k => Z k ∨ n ≤ k
theorem Zn.opn (Z : Nat → Prop) (w : World) : Opn (Zn Z w.heap.size) w := fun _ h => .inr h

theorem Tr.setCell {Z : Nat → Prop} {a w : World} (h : Tr Z a w) {p : Addr} (hp : Z p.block) (u : Value) : Tr Z a (w.setCell p u) :=
  h.trans ⟨rfl, rfl, rfl, by simp [World.setCell], fun k hk hz => Below.heap_setCell _ _ _ _ (fun e => hz (e ▸ hp))⟩
theorem Tr.alloc {Z : Nat → Prop} {a w : World} (h : Tr Z a w) (o : Obj) : Tr Z a (w.alloc o) :=
  h.trans ⟨rfl, rfl, rfl, by simp, fun k hk _ => Below.heap_alloc _ _ _ (by omega)⟩
theorem Tr.setRow {Z : Nat → Prop} {a w : World} (h : Tr Z a w) {k : Nat} (hp : Z k) (r : Array Value) : Tr Z a (w.setRow k r) :=
  h.trans ⟨rfl, rfl, rfl, by simp [World.setRow], fun i hi hz => setRow_other w k i r (fun e => hz (e ▸ hp))⟩
theorem Tr.drew {Z : Nat → Prop} {a w : World} (h : Tr Z a w) : Tr Z a w.drew := ⟨h.os, h.tape, h.output, h.size, h.block⟩
theorem Tr.drewN {Z : Nat → Prop} {a w : World} (h : Tr Z a w) (n : Nat) : Tr Z a (w.drewN n) := ⟨h.os, h.tape, h.output, h.size, h.block⟩
theorem Tr.grown {Z : Nat → Prop} {a w w' : World} {row : Option Nat} (h : Tr Z a w) (hg : w.grownBy w' row) (hr : ∀ k, row = some k → k < w.heap.size → Z k) : Tr Z a w' :=
  h.trans ⟨hg.os, hg.tape, hg.output, hg.size, fun k hk hz => hg.block k hk (fun e => hz (hr k e.symm hk))⟩
theorem Tr.heap {Z : Nat → Prop} {w w' : World} (h : Tr Z w w') {k : Nat} {o : Obj} (hk : w.heap[k]? = some o) (hz : ¬ Z k) : w'.heap[k]? = some o :=
  (h.block k (Array.getElem?_eq_some_iff.1 hk).1 hz).trans hk

/-- An owned row lies in a zone. -/
def InZ (Z : Nat → Prop) (v : Value) : Prop := ∀ k, v.ownBlock = some k → Z k
theorem own_tr {Z : Nat → Prop} {w w' : World} {B n : Nat} {e : TypeId} {size : Nat} {v : Value} {xs : List Value} (h : w.ownsRow B e size v n xs) (t : Tr Z w w') (hz : InZ (fun k => ¬ Z k) v) : w'.ownsRow B e size v n xs := by
  refine ⟨h.1, ?_⟩
  rcases h.2 with hn | ⟨g, cap, cur, rfl, hb, hgg, rest⟩
  · exact .inl hn
  · exact .inr ⟨g, cap, cur, rfl, hb, t.heap hgg (hz g rfl), rest⟩
end Go.Proofs.YtilkdeghknjjhaaGreatDoor
/- The disk: a name of a directory; find. -/
namespace Go.Proofs.YtilkdeghknjjhaaGreatDoor
open Go.RowKit
set_option linter.unusedVariables false

structure Nm where
  n : ByteArray
  f : Nat
def Nm.z : Nm := ⟨ByteArray.empty, 0⟩
def nm (l : List Nm) (i : Nat) : Nm := l.getD i Nm.z
theorem nm_get (l : List Nm) (i : Nat) (h : i < l.length) : nm l i = l[i] := by simp [nm, List.getD, List.getElem?_eq_getElem h]
def cellsN : List Nm → List Value
  | [] => []
  | e :: r => .string e.n :: .int .i64 e.f :: cellsN r
theorem cellsN_len : ∀ l, (cellsN l).length = l.length * 2
  | [] => rfl
  | e :: r => by simp [cellsN, cellsN_len r]; omega
theorem cellsN_at : ∀ (l : List Nm) (j : Nat), j < l.length → (cellsN l)[j * 2]? = some (.string (nm l j).n) ∧ (cellsN l)[j * 2 + 1]? = some (.int .i64 (nm l j).f)
  | [], j, h => absurd h (by simp)
  | e :: r, 0, _ => by simp [cellsN, nm]
  | e :: r, j + 1, h => by
    have := cellsN_at r j (by simpa using h)
    rw [show (j + 1) * 2 = j * 2 + 1 + 1 by omega]
    simpa [cellsN, nm] using this
theorem cellsN_append : ∀ (l m : List Nm), cellsN (l ++ m) = cellsN l ++ cellsN m
  | [], m => rfl
  | x :: r, m => by simp [cellsN, cellsN_append r m]
theorem cellsN_snoc (l : List Nm) (e : Nm) : cellsN (l ++ [e]) = cellsN l ++ [.string e.n, .int .i64 e.f] := by rw [cellsN_append]; rfl
theorem one_cellsN : ∀ (l : List Nm), ∀ u ∈ cellsN l, u.oneCell' = true
  | [], u, h => by simp [cellsN] at h
  | e :: r, u, h => by
    simp only [cellsN, List.mem_cons] at h
    rcases h with h | h | h
    · subst h; rfl
    · subst h; rfl
    · exact one_cellsN r u h

/-- A slice that reads as a row of cells, from the head of a block on. -/
theorem own_cells {w : World} {B e size n : Nat} {v : Value} {xs : List Value} (h : w.ownsRow B e size v n xs) : ∃ a cap, v = .slice a n cap ∧ n ≤ cap ∧ cap ≤ maxLen ∧ (0 < n → ∃ g, a = some ⟨g, 0, none⟩ ∧ g < w.heap.size ∧ ∀ j u, xs[j]? = some u → w.cell? ⟨g, j, none⟩ = some u) := by
  obtain ⟨h1, h2⟩ := h
  rcases h2 with ⟨hv, h0⟩ | ⟨g, cap, cur, hv, hg, hh, hle, hm, hsz, htk⟩
  · exact ⟨none, 0, by rw [hv, h0], by omega, by omega, fun hh => by omega⟩
  · refine ⟨_, cap, hv, hle, hm, fun h0 => ⟨g, rfl, (Array.getElem?_eq_some_iff.1 hh).1, fun j u hj => ?_⟩⟩
    have hj1 : j < xs.length := (List.getElem?_eq_some_iff.1 hj).1
    rw [← htk, List.getElem?_take_of_lt (by omega)] at hj
    simp only [World.cell?, hh]
    simpa using hj
/-- A slice of names that reads as a list. -/
abbrev RdN (w : World) (v : Value) (l : List Nm) : Prop := w.ownsRow 0 102 2 v l.length (cellsN l)
theorem RdN.cells {w : World} {v : Value} {l : List Nm} (h : RdN w v l) : ∃ a cap, v = .slice a l.length cap ∧ l.length ≤ cap ∧ cap ≤ maxLen ∧ (0 < l.length → ∃ g, a = some ⟨g, 0, none⟩ ∧ ∀ j, j < l.length → w.cell? ⟨g, j * 2, none⟩ = some (.string (nm l j).n) ∧ w.cell? ⟨g, j * 2 + 1, none⟩ = some (.int .i64 (nm l j).f)) := by
  obtain ⟨a, cap, hv, h1, h2, h3⟩ := own_cells h
  refine ⟨a, cap, hv, h1, h2, fun h0 => ?_⟩
  obtain ⟨g, ha, _, hc⟩ := h3 h0
  exact ⟨g, ha, fun j hj => ⟨hc _ _ (cellsN_at l j hj).1, hc _ _ (cellsN_at l j hj).2⟩⟩

/-- The order of names. -/
def bl (a b : ByteArray) : Bool := Op.bytesLess a.toList b.toList
/-- Where a name stands, or would stand. -/
def fd (l : List Nm) (n : ByteArray) : Nat := (l.takeWhile fun x => bl x.n n).length
theorem fd_le (l : List Nm) (n : ByteArray) : fd l n ≤ l.length := by
  unfold fd
  exact (List.takeWhile_sublist _).length_le
theorem takeWhile_len_lt {α : Type} (p : α → Bool) : ∀ (l : List α) (j : Nat) (h : j < (l.takeWhile p).length), ∃ h2 : j < l.length, p l[j] = true
  | [], j, h => by simp at h
  | x :: r, j, h => by
    by_cases hp : p x = true
    · rw [List.takeWhile_cons_of_pos hp] at h
      cases j with
      | zero => exact ⟨by simp, hp⟩
      | succ j =>
        obtain ⟨h2, h3⟩ := takeWhile_len_lt p r j (by simpa using h)
        exact ⟨by simpa using h2, by simpa using h3⟩
    · rw [List.takeWhile_cons_of_neg hp] at h
      simp at h
theorem takeWhile_len_at {α : Type} (p : α → Bool) : ∀ (l : List α) (h : (l.takeWhile p).length < l.length), p l[(l.takeWhile p).length] = false
  | [], h => by simp at h
  | x :: r, h => by
    by_cases hp : p x = true
    · have e := List.takeWhile_cons_of_pos (l := r) hp
      have h' : (r.takeWhile p).length < r.length := by rw [e] at h; simpa using h
      have ih := takeWhile_len_at p r h'
      simp only [e, List.length_cons, List.getElem_cons_succ]
      exact ih
    · have e := List.takeWhile_cons_of_neg (l := r) hp
      simp only [e, List.length_nil, List.getElem_cons_zero]
      simpa using hp
theorem fd_lt {l : List Nm} {n : ByteArray} {j : Nat} (h : j < fd l n) : bl (nm l j).n n = true := by
  obtain ⟨h2, h3⟩ := takeWhile_len_lt _ l j h
  rw [nm_get l j h2]
  exact h3
theorem fd_at {l : List Nm} {n : ByteArray} (h : fd l n < l.length) : bl (nm l (fd l n)).n n = false := by
  rw [nm_get l _ h]
  exact takeWhile_len_at _ l h
theorem fd_is {l : List Nm} {n : ByteArray} {k : Nat} (hk : k ≤ l.length) (h1 : ∀ j, j < k → bl (nm l j).n n = true) (h2 : k < l.length → bl (nm l k).n n = false) : fd l n = k := by
  have hf := fd_le l n
  rcases Nat.lt_trichotomy (fd l n) k with h | h | h
  · have := h1 _ h
    rw [fd_at (by omega)] at this
    exact absurd this (by simp)
  · exact h
  · have := fd_lt h
    rw [h2 (by omega)] at this
    exact absurd this (by simp)
/-- Whether the name stands there. -/
def there (l : List Nm) (n : ByteArray) : Bool := decide (fd l n < l.length) && ((nm l (fd l n)).n.toList == n.toList)

set_option maxRecDepth 20000 in
set_option maxHeartbeats 800000 in
theorem find_any (v : Value) (l : List Nm) (n : ByteArray) (w : World) (hrd : RdN w v l) (hl : l.length ≤ 1000000000) :
    Calls Tryz.prog 70 #[v, .string n] w fun e w' => e = .returned (.tuple #[.int .i64 (fd l n), .bool (there l n)]) ∧ Below w.heap.size w w' := by
  obtain ⟨a, cap, rfl, hlc, hc, hA⟩ := hrd.cells
  have hl1 : (l.length : Int) ≤ 1000000000 := by omega
  clear hlc hc
  go_enter Tryz.func70, Tryz.ntmps70
  go_wp2_with fail
  go_loopw [6] (fun i wr => ∃ k : Nat, k ≤ l.length ∧ i = .int .i64 k ∧ Hid (∀ j, j < k → bl (nm l j).n n = true) ∧ Below w.heap.size w wr) (fun i _ => l.length - (intOf i).toNat)
  case atStart => exact ⟨0, Nat.zero_le _, rfl, fun j h => absurd h (Nat.not_lt_zero j), Below.refl _ _⟩
  case round =>
    obtain ⟨k, hk, rfl, hj, hb⟩ := hrel
    by_cases hlt : k < l.length
    · obtain ⟨g, rfl, hr⟩ := hA (by omega)
      have c0 := cell_later hb (hr k hlt).1
      have k1 : (k : Int) < (l.length : Int) := by omega
      have k0 : (0 : Int) ≤ (k : Int) := by omega
      by_cases hs : bl (nm l k).n n = true
      · have hs' : Op.bytesLess (nm l k).n.toList n.toList = true := hs
        clear hA hr
        go_wp2_with fail
        go_roundw
        case rel => exact ⟨k + 1, by omega, by go_num, fun j h => by by_cases e : j = k; (subst e; exact hs); exact hj j (by omega), hb⟩
        case measure => simp [intOf]; omega
      · have hs' : Op.bytesLess (nm l k).n.toList n.toList = false := by simpa [bl] using hs
        have hfd : fd l n = k := fd_is hk hj (fun _ => by simpa using hs)
        have HT : Hid (there l n = ((nm l k).n.toList == n.toList)) := by show there l n = _; unfold there; rw [hfd]; simp [hlt]
        have HF : Hid (fd l n = k) := hfd
        clear hA hr hfd
        go_wp2_with fail
        have hd : decide ((k : Int) < (l.length : Int)) = true := by simpa using k1
        go_quiet (fail)
        go_wp2_with fail
        go_ret2
        exact ⟨by rw [HF.out, HT.out]; rfl, below_drewN hb _⟩
    · have k1 : ¬ (k : Int) < (l.length : Int) := by omega
      have hkl : k = l.length := by omega
      have HF : Hid (fd l n = k) := fd_is hk hj (fun h => absurd h hlt)
      have HT : Hid (there l n = false) := by show there l n = _; unfold there; rw [HF.out]; simp [hlt]
      clear hA hkl
      go_wp2_with fail
      have hd : decide ((k : Int) < (l.length : Int)) = false := by simpa using k1
      go_quiet (fail)
      go_wp2_with fail
      go_ret2
      exact ⟨by rw [HF.out, HT.out]; rfl, below_drewN hb _⟩
end Go.Proofs.YtilkdeghknjjhaaGreatDoor
