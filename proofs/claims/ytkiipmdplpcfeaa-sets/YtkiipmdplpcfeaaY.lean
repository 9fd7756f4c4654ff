/- The contract of slices.Insert of one value into a row of the call's own. -/
import Derived.Test.YtkiipmdplpcfeaaX
import Derived.WalkKit
import Derived.WalkSpells
import Derived.WalkLawsBesides
import Derived.Deep.QuietTactic
import Derived.BigQuiet
import Derived.Deep.RegionLaw
import Derived.Lib.AppendZerosOnto
import Derived.Lib.Overlaps
import Derived.Laws.Externs
namespace Go.Proofs.Ytkiipmdplpcfeaa
open Go.RowKit M
set_option linter.unusedVariables false

section
variable {P : Program}
/-- copy of m elements of any size into a row, from wherever they lie (the row itself too). -/
theorem run_copy_into (w : World) (dT sT ty elem : TypeId) (size g o dLen dCap m : Nat) (ad : Addr) (sLen sCap : Nat) (cur : List Value) (t : TypeId) (cs : List Value)
    (hu : P.underlying dT = some (.slice elem)) (hs : (P.info? elem).map (·.size) = some size) (hg : w.heap[g]? = some (.cells cur.toArray t (0, 0))) (hm : Nat.min sLen dLen = m) (hcs : cs.length = m * size)
    (hsrc : ∀ j v, cs[j]? = some v → w.cell? (ad.add j) = some v) (hfit : o + cs.length ≤ cur.length) (h1 : ∀ v ∈ cs, v.oneCell' = true) :
    (Builtin.copy_ #[dT, sT] ty #[.slice (some ⟨g, o, none⟩) dLen dCap, .slice (some ad) sLen sCap]).run P w = .ok (goInt m) (w.setRow g (cur.take o ++ cs ++ cur.drop (o + cs.length)).toArray) := by
  have hst := run_storeCells_at P g o t cs 0 cur.toArray w hg (by simpa using hfit) h1
  have hl := run_loadCells_list (P := P) w ad cs hsrc
  cases hq : P.info? elem with
  | none => simp [hq] at hs
  | some i =>
    have hi : i.size = size := by simpa [hq] using hs
    simp at hst
    simp [Builtin.copy_, run_underlying hu, Builtin.lenOf, Builtin.firstCells, sizeOf, typeInfo, hq, hi, hm, ← hcs, hl, hst]

/-- An operation 'copy' whose run is known. -/
theorem wpList_copy_known (w : World) {ops : Array Oper} {rest : List Oper} {o : Oper} {a : Act} {Q : Exit → Act → World → Prop} (hgd : o.guard = none) (d s : Operand) (t t' : TypeId)
    (ho : o.op = .call { callee := .builtin .copy, args := #[d, s], argTypes := #[t, t'] }) (v u : Value) (hd : a.eval d = v) (hsv : a.eval s = u) {v' : Value} {w' : World}
    (hr : ∀ ty, (Builtin.copy_ #[t, t'] ty #[v, u]).run P w = .ok v' w') (h : wpList P ops Q rest (a.put o.dst v') w') : wpList P ops Q (o :: rest) a w := by
  refine wpList_plain hgd fun K hK => ?_
  unfold Oper.wp
  simp [execOp, ho, resolve, invoke, builtin, hd, hsv, hr, Result.andThen]
  exact hK _ _ h
/-- The same as a step of a region that draws. -/
theorem step_copy_known {ops : Array Oper} {o : Oper} {a : Act} {w : World} {K : Act → World → Prop} {Q : Exit → Act → World → Prop} {E : Prop} (hgd : o.guard = none) (d s : Operand) (t t' : TypeId)
    (ho : o.op = .call { callee := .builtin .copy, args := #[d, s], argTypes := #[t, t'] }) (v u : Value) (hd : a.eval d = v) (hsv : a.eval s = u) {v' : Value} {w' : World}
    (hr : ∀ ty, (Builtin.copy_ #[t, t'] ty #[v, u]).run P w = .ok v' w') (h : K (a.put o.dst v') w') : if Region.wanted o (yielded ops a.tmps) = true then Oper.wp P o a w K Q else E := by
  rw [if_pos (by simp [Region.wanted, hgd])]
  unfold Oper.wp
  simp [execOp, ho, resolve, invoke, builtin, hd, hsv, hr, Result.andThen]
  exact h
/-- An operation 'append' whose run is known, whatever it is handed. -/
theorem wpList_append_known (w : World) {ops : Array Oper} {rest : List Oper} {o : Oper} {a : Act} {Q : Exit → Act → World → Prop} (hgd : o.guard = none) (d s : Operand) (t t' : TypeId)
    (ho : o.op = .call { callee := .builtin .append, args := #[d, s], argTypes := #[t, t'] }) (v u : Value) (hd : a.eval d = v) (hsv : a.eval s = u) {v' : Value} {w' : World}
    (hr : ∀ ty, (Builtin.append_ #[t, t'] ty #[v, u]).run P w = .ok v' w') (h : wpList P ops Q rest (a.put o.dst v') w') : wpList P ops Q (o :: rest) a w := by
  refine wpList_plain hgd fun K hK => ?_
  unfold Oper.wp
  simp [execOp, ho, resolve, invoke, builtin, hd, hsv, hr, Result.andThen]
  exact hK _ _ h
end

theorem size57 : (Try.prog.info? 57).map (·.size) = some 3 := by kernel_rfl
/-- A list with a value put in at a place. -/
def put (l : List Sb) (k : Nat) (x : Sb) : List Sb := l.take k ++ x :: l.drop k
theorem put_len (l : List Sb) (k : Nat) (x : Sb) (h : k ≤ l.length) : (put l k x).length = l.length + 1 := by simp [put]; omega
theorem cellsS_put (l : List Sb) (k : Nat) (x : Sb) : cellsS (put l k x) = cellsS (l.take k) ++ [.int .i64 x.n, .int .i64 x.c, .string x.v] ++ cellsS (l.drop k) := by
  unfold put; rw [cellsS_append]; simp [cellsS]
theorem cellsS_take (l : List Sb) (k : Nat) (h : k ≤ l.length) : (cellsS l).take (k * 3) = cellsS (l.take k) := by
  have e : cellsS l = cellsS (l.take k) ++ cellsS (l.drop k) := by rw [← cellsS_append, List.take_append_drop]
  rw [e, List.take_append_of_le_length (by rw [cellsS_len]; simp; omega), List.take_of_length_le (by rw [cellsS_len]; simp; omega)]
theorem cellsS_drop (l : List Sb) (k : Nat) (h : k ≤ l.length) : (cellsS l).drop (k * 3) = cellsS (l.drop k) := by
  have e : cellsS l = cellsS (l.take k) ++ cellsS (l.drop k) := by rw [← cellsS_append, List.take_append_drop]
  rw [e, List.drop_append_of_le_length (by rw [cellsS_len]; simp; omega), List.drop_eq_nil_of_le (by rw [cellsS_len]; simp; omega), List.nil_append]

set_option maxRecDepth 40000 in
set_option maxHeartbeats 1600000 in
theorem Insert_end (B : Nat) (v : Value) (l : List Sb) (x : Sb) (g2 c2 : Nat) (w : World) (hB : B ≤ w.heap.size) (hown : w.ownsRow B 57 3 v l.length (cellsS l)) (hl : l.length ≤ 1000)
    (hx : ∀ j u, [Value.int .i64 x.n, .int .i64 x.c, .string x.v][j]? = some u → w.cell? ((⟨g2, 0, none⟩ : Addr).add j) = some u) :
    Calls Try.prog 53 #[v, .int .i64 (l.length : Int), .slice (some ⟨g2, 0, none⟩) 1 c2] w fun e w' => ∃ v', e = .returned v' ∧ w'.ownsRow B 57 3 v' (l.length + 1) (cellsS (put l l.length x)) ∧ Below B w w' := by
  obtain ⟨i0, hi, hz0, hz1, hz2⟩ := info_parts Try.info57
  have hvl : ∃ a cap, v = .slice a l.length cap ∧ l.length ≤ cap := by
    rcases hown.2 with ⟨h1, h2⟩ | ⟨g, cap, cur, h1, _, _, h2, _⟩
    · exact ⟨none, 0, by rw [h1, h2], by omega⟩
    · exact ⟨_, _, h1, h2⟩
  obtain ⟨a, cap, rfl, hcap⟩ := hvl
  have hl1 : (l.length : Int) ≤ 1000 := by omega
  have hc1 : cap ≤ 9223372036854775807 := by
    rcases hown.2 with ⟨h1, h2⟩ | ⟨g, cap', cur, h1, _, _, _, hm, _⟩
    · simp at h1; omega
    · simp at h1; simp only [maxLen] at hm; omega
  have HP : Hid (cellsS (put l l.length x) = cellsS l ++ [.int .i64 x.n, .int .i64 x.c, .string x.v]) := by
    show _ = _
    rw [cellsS_put]; simp [cellsS]
  by_cases hcn : cap = l.length
  · subst hcn
    go_enter Try.func53, Try.ntmps53
    go_wp2_with (first
      | (at_builtin; refine wpList_append_own _ rfl _ _ 36 rfl B 57 i0 (.agg #[.int .i64 0, .int .i64 0, .string ByteArray.empty]) 3 32 Try.underlying36 hi hz0 hz1 hz2 rfl (by decide) _ _ _ rfl hown ⟨g2, 0, none⟩ 1 c2 [.int .i64 x.n, .int .i64 x.c, .string x.v] rfl rfl hx ?c2 ?c3 ?c4 ?c5 ?_))
    case c2 => intro u hu; simp at hu; rcases hu with rfl | rfl | rfl <;> rfl
    case c3 => unfold maxLen; omega
    case c4 => omega
    case c5 => omega
    · intro v' w2 hown' hgrow _
      go_wp2
      go_ret
      exact ⟨_, rfl, by rw [HP.out]; exact hown', (Below.refl _ _).grown hgrow hB (fun q hq => (hown.lt q hq).1)⟩
  · have hcn2 : ¬ cap = l.length := hcn
    go_enter Try.func53, Try.ntmps53
    go_wp2_with (first
      | (at_builtin; refine wpList_append_own _ rfl _ _ 36 rfl B 57 i0 (.agg #[.int .i64 0, .int .i64 0, .string ByteArray.empty]) 3 32 Try.underlying36 hi hz0 hz1 hz2 rfl (by decide) _ _ _ rfl hown ⟨g2, 0, none⟩ 1 c2 [.int .i64 x.n, .int .i64 x.c, .string x.v] rfl rfl hx ?c2 ?c3 ?c4 ?c5 ?_))
    case c2 => intro u hu; simp at hu; rcases hu with rfl | rfl | rfl <;> rfl
    case c3 => unfold maxLen; omega
    case c4 => omega
    case c5 => omega
    · intro v' w2 hown' hgrow _
      go_wp2
      go_ret
      exact ⟨_, rfl, by rw [HP.out]; exact hown', (Below.refl _ _).grown hgrow hB (fun q hq => (hown.lt q hq).1)⟩
end Go.Proofs.Ytkiipmdplpcfeaa
