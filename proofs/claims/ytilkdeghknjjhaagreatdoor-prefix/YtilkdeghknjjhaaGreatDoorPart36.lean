/- The disk: New, Copy. -/
import Derived.Test.YtilkdeghknjjhaaGreatDoorPart26
namespace Go.Proofs.YtilkdeghknjjhaaGreatDoor
open Go.RowKit
set_option linter.unusedVariables false
section
variable {P : Program}
/-- An append to nil: a copy in new memory. -/
theorem run_append_copy (w : World) (t ty e : TypeId) (i : TypeInfo) (z : Value) (size bytes : Nat) (ht : P.underlying t = some (.slice e)) (hi : P.info? e = some i) (hz : i.zero = some z)
    (hsize : i.size = size) (hby : i.bytes = bytes) (hzs : z.cells.size = size) (hsz : 0 < size) (B : Nat) (v : Value) (n : Nat) (xs : List Value) (hown : w.ownsRow B e size v n xs) (h1 : ∀ u ∈ xs, u.oneCell' = true)
    (h63 : n ≤ 1000000000) (hbytes : n * bytes ≤ 140737488355328) :
    ∃ v' w', (Builtin.append_ #[t, t] ty #[.slice none 0 0, v]).run P w = .ok v' w' ∧ w'.ownsRow w.heap.size e size v' n xs ∧ Below w.heap.size w w' := by
  obtain ⟨hl, h2⟩ := hown
  by_cases hn : n = 0
  · subst hn
    have hx : xs = [] := List.eq_nil_of_length_eq_zero (by omega)
    subst hx
    refine ⟨.slice none 0 0, w, ?_, World.ownsRow_nil _ _ _ _, Below.refl _ _⟩
    rcases h2 with ⟨rfl, _⟩ | ⟨g, cap, cur, rfl, _⟩
    · simp [Builtin.append_, run_underlying ht, sizeOf, typeInfo, hi, Builtin.lenOf, Builtin.firstCells]
    · simp [Builtin.append_, run_underlying ht, sizeOf, typeInfo, hi, Builtin.lenOf, Builtin.firstCells, loadCells, loadCellsFrom]
  · rcases h2 with ⟨_, h0⟩ | ⟨g, cap, cur, rfl, hb, hg, hnc, hcm, hcs, htk⟩
    · exact absurd h0 hn
    · have hnews : ∀ j u, xs[j]? = some u → w.cell? ((⟨g, 0, none⟩ : Addr).add j) = some u := by
        intro j u hj
        have hj1 : j < xs.length := (List.getElem?_eq_some_iff.1 hj).1
        rw [Addr.add_lit, cell_of_row _ _ _ _ _ _ hg]
        rw [← htk, List.getElem?_take_of_lt (by omega)] at hj
        simpa using hj
      obtain ⟨v', w', hr, ho, hgr, _⟩ := run_append_own (P := P) w w.heap.size t ty e i z size bytes ht hi hz hsize hby hzs hsz (.slice none 0 0) 0 [] (World.ownsRow_nil _ _ _ _) ⟨g, 0, none⟩ n cap xs hl hnews h1 (by simp only [maxLen] at *; omega) (by simpa using hbytes) (Nat.le_refl _)
      refine ⟨v', w', hr, by simpa using ho, (Below.refl _ _).grown hgr (Nat.le_refl _) (fun k hk => by simp [Value.ownBlock] at hk)⟩
theorem wpList_append_copy {w : World} {ops : Array Oper} {rest : List Oper} {o : Oper} {a : Act} {Q : Exit → Act → World → Prop} (hgd : o.guard = none) (s x : Operand) (t : TypeId)
    (ho : o.op = .call { callee := .builtin .append, args := #[s, x], argTypes := #[t, t] })
    (e : TypeId) (i : TypeInfo) (z : Value) (size bytes : Nat) (ht : P.underlying t = some (.slice e)) (hi : P.info? e = some i) (hz : i.zero = some z)
    (hsize : i.size = size) (hby : i.bytes = bytes) (hzs : z.cells.size = size) (hsz : 0 < size) (hs : a.eval s = .slice none 0 0)
    (B : Nat) (v : Value) (n : Nat) (xs : List Value) (hx : a.eval x = v) (hown : w.ownsRow B e size v n xs) (h1 : ∀ u ∈ xs, u.oneCell' = true) (h63 : n ≤ 1000000000) (hbytes : n * bytes ≤ 140737488355328)
    (h : ∀ v' w', w'.ownsRow w.heap.size e size v' n xs → Below w.heap.size w w' → wpList P ops Q rest (a.put o.dst v') w') : wpList P ops Q (o :: rest) a w := by
  refine wpList_plain hgd fun K hK => ?_
  obtain ⟨v', w', hr, h2, h3⟩ := run_append_copy (P := P) w t o.type e i z size bytes ht hi hz hsize hby hzs hsz B v n xs hown h1 h63 hbytes
  unfold Oper.wp
  simp [execOp, ho, resolve, invoke, builtin, hs, hx, hr, Result.andThen]
  exact hK _ _ (h v' w' h2 h3)
end

/-- An empty disk. -/
def Dk.new (cap : Int) : Dk := ⟨cap, [], [], [], [], -1, -1, 0⟩
theorem New_any (Z : Nat → Prop) (c : Int) (w : World) (hz : Opn Z w) :
    Calls Tryz.prog 23 #[.int .i64 c] w fun e w' => e = .returned (.pointer (some ⟨w.heap.size, 0, none⟩)) ∧ DiskAt Z w' w.heap.size (Dk.new c) ∧ Below w.heap.size w w' := by
  go_enter Tryz.func23, Tryz.ntmps23
  go_wp2
  go_ret
  refine ⟨rfl, ⟨.slice none 0 0, .slice none 0 0, .slice none 0 0, .slice none 0 0, hz _ (Nat.le_refl _), heap_alloc_new w _, World.ownsRow_nil _ _ _ _, World.ownsRow_nil _ _ _ _, World.ownsRow_nil _ _ _ _, World.ownsRow_nil _ _ _ _, ?_, ?_, ?_, ?_⟩, (Below.refl _ _).alloc (Nat.le_refl _) _⟩
  all_goals
    intro k hk
    simp [Value.ownBlock] at hk

set_option maxRecDepth 20000 in
set_option maxHeartbeats 1600000 in
theorem Copy_any (Y Z : Nat → Prop) (p : Nat) (D : Dk) (w : World) (h : DiskAt Y w p D) (hok : D.OK) (hz : Opn Z w) :
    Calls Tryz.prog 47 #[.pointer (some ⟨p, 0, none⟩)] w fun e w' => ∃ q, w.heap.size ≤ q ∧ e = .returned (.pointer (some ⟨q, 0, none⟩)) ∧ DiskAt Z w' q D ∧ Below w.heap.size w w' := by
  obtain ⟨i0, hi, hi0, hi1, hi2⟩ := info_parts infoFl
  obtain ⟨j0, hj, hj0, hj1, hj2⟩ := info_parts infoSt
  obtain ⟨k0, hk, hk0, hk1, hk2⟩ := info_parts infoNm
  obtain ⟨vf, vn, vs, vt, h⟩ := h
  obtain ⟨af, qf, hvf, _, _, _⟩ := own_cells h.rf
  obtain ⟨an, qn, hvn, _, _, _⟩ := own_cells h.rn
  obtain ⟨asf, qs, hvs, _, _, _⟩ := own_cells h.rs
  obtain ⟨at_, qt, hvt, _, _, _⟩ := own_cells h.rt
  subst hvf
  subst hvn
  subst hvs
  subst hvt
  have c0 : w.cell? ⟨p, 0, none⟩ = some (.int .i64 D.cap) := (h.cell 0).trans rfl
  have c1 : w.cell? ⟨p, 1, none⟩ = some (.slice af D.files.length qf) := (h.cell 1).trans rfl
  have c2 : w.cell? ⟨p, 2, none⟩ = some (.slice an D.now.length qn) := (h.cell 2).trans rfl
  have c3 : w.cell? ⟨p, 3, none⟩ = some (.slice asf D.safe.length qs) := (h.cell 3).trans rfl
  have c4 : w.cell? ⟨p, 4, none⟩ = some (.slice at_ D.steps.length qt) := (h.cell 4).trans rfl
  have c5 : w.cell? ⟨p, 5, none⟩ = some (.int .i64 D.wait) := (h.cell 5).trans rfl
  have c6 : w.cell? ⟨p, 6, none⟩ = some (.int .i64 D.life) := (h.cell 6).trans rfl
  have c7 : w.cell? ⟨p, 7, none⟩ = some (.int .i64 D.failed) := (h.cell 7).trans rfl
  have HD : Hid (DiskIn Y w p D (.slice af D.files.length qf) (.slice an D.now.length qn) (.slice asf D.safe.length qs) (.slice at_ D.steps.length qt)) := h
  clear h
  go_enter Tryz.func47, Tryz.ntmps47
  go_upto_region 2 with (fail)
  obtain ⟨W1, hW, HB1, HQ1⟩ : ∃ W1, (w.alloc (.cells #[.int .i64 D.cap, .slice af D.files.length qf, .slice an D.now.length qn, .slice asf D.safe.length qs, .slice at_ D.steps.length qt, .int .i64 D.wait, .int .i64 D.life, .int .i64 D.failed] 94)) = W1 ∧ Hid (Below w.heap.size w W1) ∧
      Hid (W1.heap[w.heap.size]? = some (.cells (D.row (.slice af D.files.length qf) (.slice an D.now.length qn) (.slice asf D.safe.length qs) (.slice at_ D.steps.length qt)) 94 (0, 0))) :=
    ⟨_, rfl, (Below.refl _ _).alloc (Nat.le_refl _) _, heap_alloc_new w _⟩
  rw [hW]
  clear hW c0 c5 c6 c7
  have d1 : W1.cell? ⟨p, 1, none⟩ = some (.slice af D.files.length qf) := cell_later HB1.out c1
  go_upto_region 3 with (first
    | (at_builtin; refine wpList_append_copy rfl _ _ 90 rfl 100 i0 (.agg #[.string ByteArray.empty, .int .i64 0]) 2 24 Tryz.underlying90 hi hi0 hi1 hi2 rfl (by decide) rfl 0 (.slice af D.files.length qf) D.files.length (cellsF D.files) rfl (own_below HD.out.rf HB1.out) (one_cellsF D.files) (by have := hok.lf; omega) (by have := hok.lf; omega) ?_))
  intro v1 X1 ho1 hb1
  have hq1 := heap_later hb1 HQ1.out
  have g1 : X1.cell? ⟨w.heap.size, 1, none⟩ = some (.slice af D.files.length qf) := by rw [cell_of_row _ _ _ _ _ _ hq1]; rfl
  have z1 : ∀ o, X1.frozen? ⟨w.heap.size, o, none⟩ = false := fun o => frozen_of_row _ _ _ _ _ hq1
  obtain ⟨b1, r1, hv1, _, _, _⟩ := own_cells ho1
  subst hv1
  go_upto_region 3 with (fail)
  obtain ⟨W2, hW, HB2, HQ2, HO1_1⟩ : ∃ W2, (X1.setCell ⟨w.heap.size, 1, none⟩ (.slice b1 D.files.length r1)) = W2 ∧ Hid (Below w.heap.size w W2) ∧
      Hid (W2.heap[w.heap.size]? = some (.cells (D.row (.slice b1 D.files.length r1) (.slice an D.now.length qn) (.slice asf D.safe.length qs) (.slice at_ D.steps.length qt)) 94 (0, 0))) ∧ Hid (W2.ownsRow w.heap.size 100 2 (.slice b1 D.files.length r1) D.files.length (cellsF D.files)) :=
    ⟨_, rfl, (HB1.out.trans (hb1.mono HB1.out.size)).setCell (Nat.le_refl _) _, by show _ = _; rw [heap_setCell_self hq1]; rfl, own_setCell (own_base ho1 HB1.out.size) hq1 (by decide)⟩
  rw [hW]
  clear hW g1 z1 hq1 hb1 ho1 HB1 HQ1 d1 c1 
  have d2 : W2.cell? ⟨p, 2, none⟩ = some (.slice an D.now.length qn) := cell_later HB2.out c2
  go_upto_region 4 with (first
    | (at_builtin; refine wpList_append_copy rfl _ _ 91 rfl 102 k0 (.agg #[.string ByteArray.empty, .int .i64 0]) 2 24 Tryz.underlying91 hk hk0 hk1 hk2 rfl (by decide) rfl 0 (.slice an D.now.length qn) D.now.length (cellsN D.now) rfl (own_below HD.out.rn HB2.out) (one_cellsN D.now) (by have := hok.ln; omega) (by have := hok.ln; omega) ?_))
  intro v2 X2 ho2 hb2
  have hq2 := heap_later hb2 HQ2.out
  have g2 : X2.cell? ⟨w.heap.size, 2, none⟩ = some (.slice an D.now.length qn) := by rw [cell_of_row _ _ _ _ _ _ hq2]; rfl
  have z2 : ∀ o, X2.frozen? ⟨w.heap.size, o, none⟩ = false := fun o => frozen_of_row _ _ _ _ _ hq2
  obtain ⟨b2, r2, hv2, _, _, _⟩ := own_cells ho2
  subst hv2
  go_upto_region 4 with (fail)
  obtain ⟨W3, hW, HB3, HQ3, HO1_2, HO2_2⟩ : ∃ W3, (X2.setCell ⟨w.heap.size, 2, none⟩ (.slice b2 D.now.length r2)) = W3 ∧ Hid (Below w.heap.size w W3) ∧
      Hid (W3.heap[w.heap.size]? = some (.cells (D.row (.slice b1 D.files.length r1) (.slice b2 D.now.length r2) (.slice asf D.safe.length qs) (.slice at_ D.steps.length qt)) 94 (0, 0))) ∧ Hid (W3.ownsRow w.heap.size 100 2 (.slice b1 D.files.length r1) D.files.length (cellsF D.files)) ∧ Hid (W3.ownsRow w.heap.size 102 2 (.slice b2 D.now.length r2) D.now.length (cellsN D.now)) :=
    ⟨_, rfl, (HB2.out.trans (hb2.mono HB2.out.size)).setCell (Nat.le_refl _) _, by show _ = _; rw [heap_setCell_self hq2]; rfl, own_setCell (own_below HO1_1.out hb2) hq2 (by decide), own_setCell (own_base ho2 HB2.out.size) hq2 (by decide)⟩
  rw [hW]
  clear hW g2 z2 hq2 hb2 ho2 HB2 HQ2 d2 c2 HO1_1
  have d3 : W3.cell? ⟨p, 3, none⟩ = some (.slice asf D.safe.length qs) := cell_later HB3.out c3
  go_upto_region 5 with (first
    | (at_builtin; refine wpList_append_copy rfl _ _ 91 rfl 102 k0 (.agg #[.string ByteArray.empty, .int .i64 0]) 2 24 Tryz.underlying91 hk hk0 hk1 hk2 rfl (by decide) rfl 0 (.slice asf D.safe.length qs) D.safe.length (cellsN D.safe) rfl (own_below HD.out.rs HB3.out) (one_cellsN D.safe) (by have := hok.ls; omega) (by have := hok.ls; omega) ?_))
  intro v3 X3 ho3 hb3
  have hq3 := heap_later hb3 HQ3.out
  have g3 : X3.cell? ⟨w.heap.size, 3, none⟩ = some (.slice asf D.safe.length qs) := by rw [cell_of_row _ _ _ _ _ _ hq3]; rfl
  have z3 : ∀ o, X3.frozen? ⟨w.heap.size, o, none⟩ = false := fun o => frozen_of_row _ _ _ _ _ hq3
  obtain ⟨b3, r3, hv3, _, _, _⟩ := own_cells ho3
  subst hv3
  go_upto_region 5 with (fail)
  obtain ⟨W4, hW, HB4, HQ4, HO1_3, HO2_3, HO3_3⟩ : ∃ W4, (X3.setCell ⟨w.heap.size, 3, none⟩ (.slice b3 D.safe.length r3)) = W4 ∧ Hid (Below w.heap.size w W4) ∧
      Hid (W4.heap[w.heap.size]? = some (.cells (D.row (.slice b1 D.files.length r1) (.slice b2 D.now.length r2) (.slice b3 D.safe.length r3) (.slice at_ D.steps.length qt)) 94 (0, 0))) ∧ Hid (W4.ownsRow w.heap.size 100 2 (.slice b1 D.files.length r1) D.files.length (cellsF D.files)) ∧ Hid (W4.ownsRow w.heap.size 102 2 (.slice b2 D.now.length r2) D.now.length (cellsN D.now)) ∧ Hid (W4.ownsRow w.heap.size 102 2 (.slice b3 D.safe.length r3) D.safe.length (cellsN D.safe)) :=
    ⟨_, rfl, (HB3.out.trans (hb3.mono HB3.out.size)).setCell (Nat.le_refl _) _, by show _ = _; rw [heap_setCell_self hq3]; rfl, own_setCell (own_below HO1_2.out hb3) hq3 (by decide), own_setCell (own_below HO2_2.out hb3) hq3 (by decide), own_setCell (own_base ho3 HB3.out.size) hq3 (by decide)⟩
  rw [hW]
  clear hW g3 z3 hq3 hb3 ho3 HB3 HQ3 d3 c3 HO1_2 HO2_2
  have d4 : W4.cell? ⟨p, 4, none⟩ = some (.slice at_ D.steps.length qt) := cell_later HB4.out c4
  go_upto_region 6 with (first
    | (at_builtin; refine wpList_append_copy rfl _ _ 92 rfl 97 j0 (.agg #[.int .i64 0, .string ByteArray.empty, .string ByteArray.empty, .int .i64 0]) 4 48 Tryz.underlying92 hj hj0 hj1 hj2 rfl (by decide) rfl 0 (.slice at_ D.steps.length qt) D.steps.length (cellsT D.steps) rfl (own_below HD.out.rt HB4.out) (one_cellsT D.steps) (by have := hok.lt; omega) (by have := hok.lt; omega) ?_))
  intro v4 X4 ho4 hb4
  have hq4 := heap_later hb4 HQ4.out
  have g4 : X4.cell? ⟨w.heap.size, 4, none⟩ = some (.slice at_ D.steps.length qt) := by rw [cell_of_row _ _ _ _ _ _ hq4]; rfl
  have z4 : ∀ o, X4.frozen? ⟨w.heap.size, o, none⟩ = false := fun o => frozen_of_row _ _ _ _ _ hq4
  obtain ⟨b4, r4, hv4, _, _, _⟩ := own_cells ho4
  subst hv4
  go_upto_region 6 with (fail)
  obtain ⟨W5, hW, HB5, HQ5, HO1_4, HO2_4, HO3_4, HO4_4⟩ : ∃ W5, (X4.setCell ⟨w.heap.size, 4, none⟩ (.slice b4 D.steps.length r4)) = W5 ∧ Hid (Below w.heap.size w W5) ∧
      Hid (W5.heap[w.heap.size]? = some (.cells (D.row (.slice b1 D.files.length r1) (.slice b2 D.now.length r2) (.slice b3 D.safe.length r3) (.slice b4 D.steps.length r4)) 94 (0, 0))) ∧ Hid (W5.ownsRow w.heap.size 100 2 (.slice b1 D.files.length r1) D.files.length (cellsF D.files)) ∧ Hid (W5.ownsRow w.heap.size 102 2 (.slice b2 D.now.length r2) D.now.length (cellsN D.now)) ∧ Hid (W5.ownsRow w.heap.size 102 2 (.slice b3 D.safe.length r3) D.safe.length (cellsN D.safe)) ∧ Hid (W5.ownsRow w.heap.size 97 4 (.slice b4 D.steps.length r4) D.steps.length (cellsT D.steps)) :=
    ⟨_, rfl, (HB4.out.trans (hb4.mono HB4.out.size)).setCell (Nat.le_refl _) _, by show _ = _; rw [heap_setCell_self hq4]; rfl, own_setCell (own_below HO1_3.out hb4) hq4 (by decide), own_setCell (own_below HO2_3.out hb4) hq4 (by decide), own_setCell (own_below HO3_3.out hb4) hq4 (by decide), own_setCell (own_base ho4 HB4.out.size) hq4 (by decide)⟩
  rw [hW]
  clear hW g4 z4 hq4 hb4 ho4 HB4 HQ4 d4 c4 HO1_3 HO2_3 HO3_3
  go_wp2
  go_ret
  refine ⟨w.heap.size, Nat.le_refl _, rfl, ⟨_, _, _, _, hz _ (Nat.le_refl _), HQ5.out, own_base HO1_4.out (Nat.zero_le _), own_base HO2_4.out (Nat.zero_le _), own_base HO3_4.out (Nat.zero_le _), own_base HO4_4.out (Nat.zero_le _), ?_, ?_, ?_, ?_⟩, HB5.out⟩
  · exact fun k hk => hz k (HO1_4.out.lt k hk).1
  · exact fun k hk => hz k (HO2_4.out.lt k hk).1
  · exact fun k hk => hz k (HO3_4.out.lt k hk).1
  · exact fun k hk => hz k (HO4_4.out.lt k hk).1
end Go.Proofs.YtilkdeghknjjhaaGreatDoor
