/- The store: do. -/
import Derived.Test.YtilkdeghknjjhaaGreatDoorPart41
namespace Go.Proofs.YtilkdeghknjjhaaGreatDoor
open Go.RowKit M Go.Maps
set_option linter.unusedVariables false

/-- What do does behind write. -/
noncomputable def doW (r : Bool × Dk × Jn × St) (E : Se) (m : Mt) : Int × Dk × Jn × St :=
  if r.1 = true then (0, r.2.1, r.2.2.1, r.2.2.2) else (7, r.2.1, r.2.2.1, { r.2.2.2 with M := keepM r.2.2.2.M m.k E, cnt := m.count - 1 })
/-- What do does, where the key gets the set that q tells. -/
noncomputable def doG (D : Dk) (J : Jn) (S : St) (m : Mt) (q : List (Int × Int) × List Sb × Int) : Int × Dk × Jn × St := open Classical in
  if ¬ q.2.2 = 0 then (q.2.2, D, J, S)
  else if D.cap - D.bytes < 4000 then (6, D, J, S)
  else doW (writeF D J { S with M := keepM S.M m.k ⟨q.1, q.2.1⟩, cnt := m.count } (encM m)) (S.M m.k) m
/-- What do does. -/
noncomputable def doF (D : Dk) (J : Jn) (S : St) (m : Mt) : Int × Dk × Jn × St := doG D J S m (outF (S.M m.k) m)

theorem Sto.tr {Z Y X : Nat → Prop} {w w' : World} {s j d : Nat} {mv : Value} {n : Nat} {D : Dk} {J : Jn} {S : St} (h : Sto Z Y w s j d mv n D J S) (t : Tr X w w') (hx : ∀ k, X k → ¬ Z k ∧ ¬ Y k ∧ k ≠ j ∧ 5 ≤ k) : Sto Z Y w' s j d mv n D J S :=
  ⟨⟨h.side.dk.tr t fun k hz hk => (hx k hk).1 hz, h.side.jn.tr t fun hk => (hx j hk).2.2.1 rfl, h.side.vs.tr t fun k hk hx' => by have := (hx k hx').2.2.2; omega⟩, h.st.tr t fun k hy hk => (hx k hk).2.1 hy, h.jz, h.jy, h.dj, fun k hk => Nat.lt_of_lt_of_le (h.lz k hk) t.size, h.v5, h.j5⟩
/-- The variables of do, in memory. -/
structure DoBx (X : World) (s A g1 g2 g3 : Nat) (mr r1 r3 : Array Value) (b : Bool) : Prop where
  a : X.heap[A]? = some (.cells #[.pointer (some ⟨s, 0, none⟩)] 33 (0, 0))
  m : X.heap[A + 1]? = some (.cells mr 111 (0, 0))
  s1 : X.heap[g1]? = some (.cells r1 117 (0, 0))
  t : X.heap[g2]? = some (.cells #[.bool b] 4 (0, 0))
  s3 : X.heap[g3]? = some (.cells r3 117 (0, 0))
theorem DoBx.tr {X X' : World} {P : Nat → Prop} {s A g1 g2 g3 : Nat} {mr r1 r3 : Array Value} {b : Bool} (h : DoBx X s A g1 g2 g3 mr r1 r3 b) (t : Tr P X X') (hp : ∀ k, k = A ∨ k = A + 1 ∨ k = g1 ∨ k = g2 ∨ k = g3 → ¬ P k) : DoBx X' s A g1 g2 g3 mr r1 r3 b :=
  ⟨t.heap h.a (hp _ (.inl rfl)), t.heap h.m (hp _ (.inr (.inl rfl))), t.heap h.s1 (hp _ (.inr (.inr (.inl rfl)))), t.heap h.t (hp _ (.inr (.inr (.inr (.inl rfl))))), t.heap h.s3 (hp _ (.inr (.inr (.inr (.inr rfl)))))⟩
theorem DoBx.set {X : World} {s A g1 g2 g3 : Nat} {mr r1 r3 : Array Value} {b : Bool} (h : DoBx X s A g1 g2 g3 mr r1 r3 b) (u : Bool) (h1 : A ≠ g2) (h2 : A + 1 ≠ g2) (h3 : g1 ≠ g2) (h4 : g3 ≠ g2) : DoBx (X.setCell ⟨g2, 0, none⟩ (.bool u)) s A g1 g2 g3 mr r1 r3 u :=
  ⟨by rw [Below.heap_setCell _ _ _ _ h1]; exact h.a, by rw [Below.heap_setCell _ _ _ _ h2]; exact h.m, by rw [Below.heap_setCell _ _ _ _ h3]; exact h.s1, by rw [heap_setCell_self h.t]; rfl, by rw [Below.heap_setCell _ _ _ _ h4]; exact h.s3⟩

set_option maxRecDepth 20000 in
set_option maxHeartbeats 3200000 in
theorem sdo_any (Z Y : Nat → Prop) (s j d : Nat) (mv : Value) (n : Nat) (D : Dk) (J : Jn) (S : St) (m : Mt) (vc : Value) (w : World) (h : Sto Z Y w s j d mv n D J S) (hwf : D.WF) (hwf2 : (jappend D J (encM m)).2.1.WF) (hbu : D.Bud 5) (hjn : J.num < 900000000) (hjs : J.size ≤ 1000000000) (hjr : J.roll ≤ 1000000000)
    (hrd : Rd w vc m.c) (hrz : InZ (fun k => ¬ Y k ∧ k < w.heap.size) vc) (hk : m.k.size ≤ 255) (hv : m.v.size ≤ 255) (hn : n < 900000000000) (hc0 : 0 ≤ S.held) (hc1 : S.held ≤ S.cnt) (hc : m.count = S.cnt + 1) (hc2 : S.cnt ≤ 1000000000000000) (hE : ((S.M m.k).L).length ≤ 6) :
    Calls Tryz.prog 50 #[.pointer (some ⟨s, 0, none⟩), mtV m vc] w fun e w' => e = .returned (.int .i64 (doF D J S m).1) ∧ StoX Z Y w w' s j d (n + 2) (doF D J S m).2.1 (doF D J S m).2.2.1 (doF D J S m).2.2.2 := by
  obtain ⟨del, node, count, k, c, v⟩ := m
  simp only at hrd hk hv hc hE
  obtain ⟨av, lv, cv, rfl⟩ : ∃ a l cap, vc = .slice a l cap := by obtain ⟨a, cap, h, _⟩ := hrd; exact ⟨_, _, _, h⟩
  obtain ⟨W, hW, HB, HA, HM⟩ : ∃ W, ((w.alloc (.cells #[.pointer (some ⟨s, 0, none⟩)] 33)).alloc (.cells #[.bool del, .int .i64 node, .int .i64 count, .string k, .slice av lv cv, .string v] 111)) = W ∧ Hid (Below w.heap.size w W) ∧
      Hid (W.heap[w.heap.size]? = some (.cells #[.pointer (some ⟨s, 0, none⟩)] 33 (0, 0))) ∧ Hid (W.heap[w.heap.size + 1]? = some (.cells #[.bool del, .int .i64 node, .int .i64 count, .string k, .slice av lv cv, .string v] 111 (0, 0))) :=
    ⟨_, rfl, ((Below.refl _ _).alloc (Nat.le_refl _) _).alloc (by simp) _, (Below.heap_alloc _ _ _ (by simp)).trans (heap_alloc_new w _), heap_alloc2_new w _ _⟩
  have hWs : w.heap.size + 2 = W.heap.size := by rw [← hW]; simp
  have HC0 : Hid (count = S.cnt + 1) := hc
  have HYl : Hid (∀ k, Y k → k < w.heap.size) := h.st.lt
  have HYs : Hid (Y s) := h.st.ys
  have HZl : Hid (∀ k, Z k → k < w.heap.size) := h.lz
  have HJl : Hid (j < w.heap.size ∧ 5 ≤ j) := ⟨h.jlt, h.j5⟩
  have HSt : Hid (Sto Z Y W s j d mv n D J S) := h.below HB.out
  have HBx : Hid (∀ X : World, X.heap[w.heap.size]? = some (.cells #[.pointer (some ⟨s, 0, none⟩)] 33 (0, 0)) → X.heap[w.heap.size + 1]? = some (.cells #[.bool del, .int .i64 node, .int .i64 count, .string k, .slice av lv cv, .string v] 111 (0, 0)) →
      X.cell? ⟨w.heap.size, 0, none⟩ = some (.pointer (some ⟨s, 0, none⟩)) ∧ X.cell? ⟨w.heap.size + 1, 0, none⟩ = some (.bool del) ∧ X.cell? ⟨w.heap.size + 1, 1, none⟩ = some (.int .i64 node) ∧ X.cell? ⟨w.heap.size + 1, 2, none⟩ = some (.int .i64 count) ∧ X.cell? ⟨w.heap.size + 1, 3, none⟩ = some (.string k) ∧ X.cell? ⟨w.heap.size + 1, 4, none⟩ = some (.slice av lv cv) ∧ X.cell? ⟨w.heap.size + 1, 5, none⟩ = some (.string v)) := by
    intro X h1 h2
    have hcell : ∀ o, X.cell? ⟨w.heap.size + 1, o, none⟩ = #[Value.bool del, .int .i64 node, .int .i64 count, .string k, .slice av lv cv, .string v][o]? := fun o => by rw [cell_of_row _ _ _ _ _ _ h2]
    exact ⟨by rw [cell_of_row _ _ _ _ _ _ h1]; rfl, (hcell 0).trans rfl, (hcell 1).trans rfl, (hcell 2).trans rfl, (hcell 3).trans rfl, (hcell 4).trans rfl, (hcell 5).trans rfl⟩
  have HO : Hid (∀ X, Below W.heap.size W X → Calls Tryz.prog 91 #[.pointer (some ⟨s, 0, none⟩), .agg #[.bool del, .int .i64 node, .int .i64 count, .string k, .slice av lv cv, .string v]] X fun e w' => SetF (outF (S.M k) ⟨del, node, count, k, c, v⟩) X e w') :=
    fun X hX => outcome_any Y s _ _ mv n S ⟨del, node, count, k, c, v⟩ (.slice av lv cv) X (HSt.out.st.below hX) ((hrd.below HB.out).below hX) (by show k.size ≤ maxLen; unfold maxLen; omega)
  obtain ⟨q, hq⟩ : ∃ q, outF (S.M k) ⟨del, node, count, k, c, v⟩ = q := ⟨_, rfl⟩
  obtain ⟨E, hEE⟩ : ∃ E, S.M k = E := ⟨_, rfl⟩
  have HR : Hid (doF D J S ⟨del, node, count, k, c, v⟩ = doG D J S ⟨del, node, count, k, c, v⟩ q) := by
    show _ = _
    rw [← hq]; rfl
  obtain ⟨R, hR⟩ : ∃ R, doF D J S ⟨del, node, count, k, c, v⟩ = R := ⟨_, rfl⟩
  rw [hq] at HO
  rw [hR] at HR ⊢
  have hmf : ∀ (fn : Fn) (first cap : Array Value) (w : World), (Instr.makeFunc fn first cap).run Tryz.prog w = .ok (.func fn first cap) w := fun _ _ _ _ => rfl
  obtain ⟨y0, y1, y2, y3, y4, y5, y6⟩ := HBx.out W HA.out HM.out
  clear hq hR h hc
  unfold mtV
  simp only
  go_enter_defers Tryz.func50, Tryz.ntmps50
  go_upto_region 1 with (fail)
  clear hW
  go_wp2_with fail
  refine (HO.out _ (Below.refl _ _)).mono ?_
  intro e w2 hset
  obtain ⟨a1, l1, p1, a2, l2, p2, rfl, hv2, hb2, hl2⟩ := hset.set Y
  obtain ⟨W2, hW2, HB2, HS2⟩ : ∃ W2, w2.alloc (.cells #[.slice a1 l1 p1, .slice a2 l2 p2] 117) = W2 ∧ Hid (Below W.heap.size W W2) ∧ Hid (W2.heap[w2.heap.size]? = some (.cells #[.slice a1 l1 p1, .slice a2 l2 p2] 117 (0, 0))) :=
    ⟨_, rfl, belowA hb2, heap_alloc_new w2 _⟩
  have HV2 : Hid (SetIn (Yn Y W.heap.size w2.heap.size) W2 (.agg #[.slice a1 l1 p1, .slice a2 l2 p2]) ⟨q.1, q.2.1⟩) := by rw [← hW2]; exact hv2.below (belowA (Below.refl _ _))
  have HB20 : Hid (Below W.heap.size W w2) := hb2
  clear hv2 hset hb2 HO y0 y1 y2 y3 y4 y5 y6
  by_cases hq0 : q.2.2 = 0
  · rw [hq0]
    obtain ⟨y0, y1, y2, y3, y4, y5, y6⟩ := HBx.out W2 (heap_later HB2.out HA.out) (heap_later HB2.out HM.out)
    have HSt2 : Hid (Sto Z Y W2 s j d mv n D J S) := HSt.out.below HB2.out
    have c0 : W2.cell? ⟨s, 0, none⟩ = some (.pointer (some ⟨d, 0, none⟩)) := (HSt2.out.st.cell 0).trans rfl
    have HL := Left_any Z d D W2 HSt2.out.side.dk hwf.ok
    go_upto_region 4 with (fail)
    clear hW2
    go_wp2_with fail
    refine HL.mono ?_
    rintro e w3 ⟨rfl, hb3⟩
    have HB3 : Hid (Below W.heap.size W w3) := belowN HB2.out hb3
    have HS3 : Hid (w3.heap[w2.heap.size]? = some (.cells #[.slice a1 l1 p1, .slice a2 l2 p2] 117 (0, 0))) := heap_later hb3 HS2.out
    have HV3 : Hid (SetIn (Yn Y W.heap.size w2.heap.size) w3 (.agg #[.slice a1 l1 p1, .slice a2 l2 p2]) ⟨q.1, q.2.1⟩) := HV2.out.below hb3
    clear hb3 HV2 HS2 HB2 HSt2 c0 y0 y1 y2 y3 y4 y5 y6
    by_cases hcap : D.cap - D.bytes < 4000
    · have HF : Hid (R = (6, D, J, S)) := by show _ = _; rw [HR.out]; unfold doG; rw [if_neg (fun hh => hh hq0), if_pos hcap]
      clear HR
      go_wp2
      exact ⟨_, results_tmp rfl _ _ _, by rw [HF.out]; rfl, by rw [HF.out]; exact StoX.below (belowN HB.out HB3.out) (StoX.refl (HSt.out.below HB3.out) (Below.refl _ _) (by omega))⟩
    · obtain ⟨T, hT, hSet, _⟩ := (HSt.out.st.below HB3.out).tab.get k
      rw [hEE] at hSet
      obtain ⟨uc, ul, hu, o1, o2, z1, z2⟩ := hSet.ex
      obtain ⟨a3, q3, rfl⟩ := own_shape o1
      obtain ⟨a4, q4, rfl⟩ := own_shape o2
      have c5 : w3.cell? ⟨s, 5, none⟩ = some mv := ((HSt.out.below HB3.out).st.cell 5).trans rfl
      obtain ⟨W3, hW3, f3, z3, HB3a⟩ : ∃ W3, w3.alloc (.cells #[.bool false] 4) = W3 ∧ W3.cell? ⟨w3.heap.size, 0, none⟩ = some (.bool false) ∧ W3.frozen? ⟨w3.heap.size, 0, none⟩ = false ∧ Hid (Below w3.heap.size w3 W3 ∧ W3.heap[w3.heap.size]? = some (.cells #[.bool false] 4 (0, 0))) :=
        ⟨_, rfl, by rw [cell_of_row _ _ _ _ _ _ (heap_alloc_new w3 _)]; rfl, frozen_of_row _ _ _ _ _ (heap_alloc_new w3 _), belowA (Below.refl _ _), heap_alloc_new w3 _⟩
      obtain ⟨W4, hW4, HB4, HT4⟩ : ∃ W4, W3.setCell ⟨w3.heap.size, 0, none⟩ (.bool false) = W4 ∧ Hid (Below w3.heap.size w3 W4) ∧ Hid (W4.heap[w3.heap.size]? = some (.cells #[.bool false] 4 (0, 0))) :=
        ⟨_, rfl, HB3a.out.1.setCell (Nat.le_refl _) _, by rw [heap_setCell_self HB3a.out.2]; rfl⟩
      have HE4 : Hid (SetIn Y w3 (.agg #[.slice a3 E.C.length q3, .slice a4 E.L.length q4]) E) := ⟨_, _, rfl, o1, o2, z1, z2⟩
      have HG : Hid (∀ X, Below w3.heap.size w3 X → Calls Tryz.prog 55 #[.pointer (some ⟨s, 5, none⟩), .string k] X fun e w' => (∃ b, e = .returned (.tuple #[.agg #[.slice a3 E.C.length q3, .slice a4 E.L.length q4], .bool b])) ∧ Below X.heap.size X w') := fun X hX => by
        have := tGet_any s 5 mv n T k X (cell_later hX c5) (hT.below hX) (by unfold maxLen; omega)
        rw [hu] at this
        exact this.mono fun e w' ⟨he, hb⟩ => ⟨⟨_, he⟩, hb⟩
      have hB34 : Below W4.heap.size W4 W4 := Below.refl _ _
      have HCx : Hid (∀ X, Below W4.heap.size W4 X → X.cell? ⟨w.heap.size, 0, none⟩ = some (.pointer (some ⟨s, 0, none⟩)) ∧ X.cell? ⟨w.heap.size + 1, 3, none⟩ = some (.string k)) := fun X hX => by
        have hb : Below W.heap.size W X := belowN HB3.out (belowN HB4.out hX)
        obtain ⟨y0, y1, y2, y3, y4, y5, y6⟩ := HBx.out X (heap_later hb HA.out) (heap_later hb HM.out)
        exact ⟨y0, y4⟩
      obtain ⟨x0, x3⟩ := HCx.out W4 hB34
      clear hT hSet hu o1 o2 z1 z2 c5
      go_upto_region 7 with (fail)
      clear hW3 hW4 f3 z3 HB3a
      go_cut [8] from 8 to 33 (fun v8 wx => ∃ g, v8 = .pointer (some ⟨g, 0, none⟩) ∧ W4.heap.size ≤ g ∧ wx.heap[g]? = some (.cells #[.slice a3 E.C.length q3, .slice a4 E.L.length q4] 117 (0, 0)) ∧ Below W4.heap.size W4 wx)
      case first =>
        go_region_held3 (fun w' => w'.cell? ⟨w.heap.size, 0, none⟩ = some (.pointer (some ⟨s, 0, none⟩)) ∧ w'.cell? ⟨w.heap.size + 1, 3, none⟩ = some (.string k))
          (first | exact HCx.out _ (by repeat (first | assumption | exact Below.refl _ _ | refine Below.drew ?_ | refine belowA ?_ | refine Below.setCell ?_ (by exact Nat.le_refl _) _)))
          (first
            | ((go_at_call 55; refine (HG.out _ (by refine belowN HB4.out ?_; repeat (first | assumption | exact Below.refl _ _ | refine Below.drew ?_ | refine belowA ?_ | refine Below.setCell ?_ (by exact Nat.le_refl _) _))).mono ?_; rintro e w5 ⟨⟨b, rfl⟩, hb5⟩; have hb6 := belowN (a := W4) (by repeat (first | assumption | exact Below.refl _ _ | refine Below.drew ?_ | refine belowA ?_ | refine Below.setCell ?_ (by exact Nat.le_refl _) _)) hb5; have zz := HCx.out w5 hb6; (first | (have r1 := rowD hb5; have r2 := row_c0 r1; have r3 := row_c1 r1; have r4 := row_fz r1) | skip))))
        · go_wp2_with fail
          go_meet
          exact ⟨w5.heap.size, rfl, hb6.size, heap_alloc_new w5 _, belowA hb6⟩
        · go_wp2_with fail
          go_meet
          exact ⟨W4.heap.size, rfl, Nat.le_refl _, by rw [heap_setCell_self (heap_setCell_self r1 0 _) 1 _]; rfl, (hb6.setCell (Nat.le_refl _) _).setCell (Nat.le_refl _) _⟩
      case rest =>
        obtain ⟨g, rfl, hgl, hg, hbx⟩ := hcut
        have hb3c : Below w3.heap.size w3 wc := belowN HB4.out hbx
        have hbw : Below W.heap.size W wc := belowN HB3.out hb3c
        have hlt : g < wc.heap.size := (Array.getElem?_eq_some_iff.1 hg).1
        have HBo : Hid (DoBx wc s w.heap.size w2.heap.size w3.heap.size g #[.bool del, .int .i64 node, .int .i64 count, .string k, .slice av lv cv, .string v] #[.slice a1 l1 p1, .slice a2 l2 p2] #[.slice a3 E.C.length q3, .slice a4 E.L.length q4] false) :=
          ⟨heap_later hbw HA.out, heap_later hbw HM.out, heap_later hb3c HS3.out, heap_later hbx HT4.out, hg⟩
        have HSz : Hid (w.heap.size + 2 ≤ W.heap.size ∧ W.heap.size ≤ w2.heap.size ∧ w2.heap.size < w3.heap.size ∧ w3.heap.size < g ∧ g < wc.heap.size) :=
          ⟨by omega, HB20.out.size, (Array.getElem?_eq_some_iff.1 HS3.out).1, Nat.lt_of_lt_of_le (Array.getElem?_eq_some_iff.1 HT4.out).1 hgl, hlt⟩
        have HS1 : Hid (Sto Z (Yn Y W.heap.size w2.heap.size) wc s j d mv n D J S) := HSt.out.own (below_tr hbw Y) ((HSt.out.st.below hbw).zone (fun k hk => .inl hk) (fun k hk => by
          have := HSz.out
          rcases hk with hk | hk
          · exact (HSt.out.st.below hbw).lt k hk
          · omega)) (fun k hk => hk.imp (fun h => h) (fun h => h.1))
        have HEc : Hid (SetIn (Yn Y W.heap.size w2.heap.size) wc (.agg #[.slice a3 E.C.length q3, .slice a4 E.L.length q4]) E) := (HE4.out.below hb3c).mono fun k hk => .inl hk
        have HVc : Hid (SetIn (Yn Y W.heap.size w2.heap.size) wc (.agg #[.slice a1 l1 p1, .slice a2 l2 p2]) ⟨q.1, q.2.1⟩) := HV3.out.below hb3c
        have HRc : Hid (Rd wc (.slice av lv cv) c) := (hrd.below HB.out).below hbw
        have HK := keep_all _ s _ _ mv n S k _ ⟨q.1, q.2.1⟩ count wc HS1.out.st (by unfold maxLen; omega) (by omega) HVc.out hl2
        have HBc : Hid (Below w.heap.size w wc) := belowN HB.out hbw
        have z0 : wc.cell? ⟨w.heap.size, 0, none⟩ = some (.pointer (some ⟨s, 0, none⟩)) := by rw [cell_of_row _ _ _ _ _ _ HBo.out.a]; rfl
        obtain ⟨_, m0, m1, m2, m3, m4, m5⟩ := HBx.out wc HBo.out.a HBo.out.m
        have u0 := row_c0 HBo.out.s1
        have u1 := row_c1 HBo.out.s1
        clear hb3c hbw hlt hgl hg hbx hB34 x0 x3 HCx HG HE4 HT4 HB4 HV3 HS3 HB20
        go_upto_region 10 with (first | exact hmf)
        refine HK.mono ?_
        rintro e w5 ⟨rfl, ⟨mv', h5⟩, t5, r5⟩
        have HS2 : Hid (Sto Z (Yn (Yn Y W.heap.size w2.heap.size) wc.heap.size w5.heap.size) w5 s j d mv' (n + 1) D J { S with M := keepM S.M k ⟨q.1, q.2.1⟩, cnt := count }) := HS1.out.own t5 h5 (fun k hk => hk.imp (fun h => h) (fun h => h.1))
        have HB5 : Hid (DoBx w5 s w.heap.size w2.heap.size w3.heap.size g #[.bool del, .int .i64 node, .int .i64 count, .string k, .slice av lv cv, .string v] #[.slice a1 l1 p1, .slice a2 l2 p2] #[.slice a3 E.C.length q3, .slice a4 E.L.length q4] false) := HBo.out.tr t5 (fun i hi hy => by
          have h1 := HSz.out
          rcases hy with hy | hy
          · have := HYl.out i hy
            omega
          · omega)
        have HE5 : Hid (SetIn (Yn (Yn Y W.heap.size w2.heap.size) wc.heap.size w5.heap.size) w5 (.agg #[.slice a3 E.C.length q3, .slice a4 E.L.length q4]) E) := (HEc.out.rows r5).mono fun i hi => .inl hi
        have HR5 : Hid (Rd w5 (.slice av lv cv) c) := HRc.out.tr t5 (fun i hi hy => by
          have h1 := HSz.out
          have h2 := hrz i hi
          rcases hy with hy | hy
          · exact h2.1 hy
          · omega)
        have HT5 : Hid (Tr (Zs Z Y j) w w5) := (below_tr HBc.out (Zs Z Y j)).trans' t5 (fun i hi hy => by
          have h1 := HSz.out
          rcases hy with hy | hy
          · exact .inr (.inl hy)
          · omega)
        have HZ5 : Hid (wc.heap.size ≤ w5.heap.size) := t5.size
        have HW := swrite_any Z _ s j d mv' (n + 1) D J { S with M := keepM S.M k ⟨q.1, q.2.1⟩, cnt := count } ⟨del, node, count, k, c, v⟩ (.slice av lv cv) w5 HS2.out hwf hwf2 hbu hjn hjs hjr HR5.out hk hv hc0 (by have := HC0.out; show S.held ≤ count; omega) (by have := HC0.out; show count ≤ _; omega)
        have HRR : Hid (R = doW (writeF D J { S with M := keepM S.M k ⟨q.1, q.2.1⟩, cnt := count } (encM ⟨del, node, count, k, c, v⟩)) E ⟨del, node, count, k, c, v⟩) := by
          show _ = _
          rw [HR.out]
          unfold doG
          rw [if_neg (fun hh => hh hq0), if_neg (Int.not_lt.2 hcap), ← hEE]
        obtain ⟨⟨b, D1, J1, S2⟩, hr⟩ : ∃ r, writeF D J { S with M := keepM S.M k ⟨q.1, q.2.1⟩, cnt := count } (encM ⟨del, node, count, k, c, v⟩) = r := ⟨_, rfl⟩
        rw [hr] at HW HRR
        simp only at HW HRR
        unfold mtV at HW
        simp only at HW
        clear hr HR t5 h5 r5 HK z0 m0 m1 m2 m3 m4 m5 u0 u1 HS1 HBo HVc HEc HRc HR5
        have z0 : w5.cell? ⟨w.heap.size, 0, none⟩ = some (.pointer (some ⟨s, 0, none⟩)) := by rw [cell_of_row _ _ _ _ _ _ HB5.out.a]; rfl
        obtain ⟨_, m0, m1, m2, m3, m4, m5⟩ := HBx.out w5 HB5.out.a HB5.out.m
        go_wp2_with fail
        refine HW.mono ?_
        rintro e w6 ⟨rfl, ⟨Z6, h6, hz6⟩, t6⟩
        have HB6 : Hid (DoBx w6 s w.heap.size w2.heap.size w3.heap.size g #[.bool del, .int .i64 node, .int .i64 count, .string k, .slice av lv cv, .string v] #[.slice a1 l1 p1, .slice a2 l2 p2] #[.slice a3 E.C.length q3, .slice a4 E.L.length q4] false) := HB5.out.tr t6 (fun i hi hy => by
          have h1 := HSz.out
          have h3 := HYl.out s HYs.out
          rcases hy with hy | hy | hy
          · have := HZl.out i hy
            omega
          · have := HJl.out
            omega
          · omega)
        have f0 : w6.cell? ⟨w3.heap.size, 0, none⟩ = some (.bool false) := by rw [cell_of_row _ _ _ _ _ _ HB6.out.t]; rfl
        have f1 : w6.frozen? ⟨w3.heap.size, 0, none⟩ = false := frozen_of_row _ _ _ _ _ HB6.out.t
        obtain ⟨W7, hW7, HB7, HS7, HE7, HT7⟩ : ∃ W7, w6.setCell ⟨w3.heap.size, 0, none⟩ (.bool b) = W7 ∧ Hid (DoBx W7 s w.heap.size w2.heap.size w3.heap.size g #[.bool del, .int .i64 node, .int .i64 count, .string k, .slice av lv cv, .string v] #[.slice a1 l1 p1, .slice a2 l2 p2] #[.slice a3 E.C.length q3, .slice a4 E.L.length q4] b) ∧
            Hid (Sto Z6 (Yn (Yn Y W.heap.size w2.heap.size) wc.heap.size w5.heap.size) W7 s j d mv' (n + 1) D1 J1 S2) ∧ Hid (SetIn (Yn (Yn Y W.heap.size w2.heap.size) wc.heap.size w5.heap.size) W7 (.agg #[.slice a3 E.C.length q3, .slice a4 E.L.length q4]) E) ∧ Hid (Tr (Zs Z Y j) w W7) := by
          have h1 := HSz.out
          have h3 := HYl.out s HYs.out
          have h4 := HJl.out
          have h5 := HZ5.out
          have tt : Tr (One w3.heap.size) w6 (w6.setCell ⟨w3.heap.size, 0, none⟩ (.bool b)) := (Tr.refl _ w6).set1 0 _
          have hfar : ∀ i, One w3.heap.size i → ¬ Z6 i ∧ ¬ (Yn (Yn Y W.heap.size w2.heap.size) wc.heap.size w5.heap.size) i ∧ i ≠ j ∧ 5 ≤ i := by
            rintro i (rfl : i = w3.heap.size)
            refine ⟨fun hz => ?_, fun hy => ?_, by omega, by have := HS2.out.j5; omega⟩
            · rcases hz6 _ hz with hz | hz
              · have := HZl.out _ hz; omega
              · omega
            · rcases hy with (hy | hy) | hy
              · have := HYl.out _ hy; omega
              · omega
              · omega
          refine ⟨_, rfl, HB6.out.set b (by omega) (by omega) (by omega) (by omega), h6.tr tt hfar, (HE5.out.zt HS2.out t6).tr tt fun i hi hx => (hfar i hx).2.1 hi, (HT5.out.trans' t6 fun i hi hy => ?_).trans' tt fun i hi (hx : i = w3.heap.size) => by omega⟩
          rcases hy with hy | hy | hy
          · exact .inl hy
          · exact .inr (.inr hy)
          · exact .inr (.inl (hy ▸ HYs.out))
        have HZ6 : Hid (∀ i, Z6 i → Z i ∨ w.heap.size ≤ i) := fun i hi => (hz6 i hi).imp (fun h => h) (fun h => by have := HSz.out; have := HZ5.out; omega)
        have g0 : W7.cell? ⟨w3.heap.size, 0, none⟩ = some (.bool b) := by rw [cell_of_row _ _ _ _ _ _ HB7.out.t]; rfl
        clear h6 t6 hz6 HB6 HB5 HW z0 m0 m1 m2 m3 m4 m5 HE5 HS2
        have HY2 : Hid (∀ i, (Yn (Yn Y W.heap.size w2.heap.size) wc.heap.size w5.heap.size) i → Y i ∨ w.heap.size ≤ i) := fun i hi => by
          have h1 := HSz.out
          rcases hi with (hi | hi) | hi
          · exact .inl hi
          · exact .inr (by omega)
          · exact .inr (by omega)
        cases b
        · have HF : Hid (R = (7, D1, J1, { S2 with M := keepM S2.M k E, cnt := count - 1 })) := HRR
          go_upto_region 11 with (fail)
          clear hW7 f0 f1 HRR
          go_wp2
          refine leaves_cons (f := 92) (args := #[.pointer (some ⟨w3.heap.size, 0, none⟩), .pointer (some ⟨w.heap.size, 0, none⟩), .pointer (some ⟨w.heap.size + 1, 0, none⟩), .pointer (some ⟨g, 0, none⟩)]) (by simp) (by simp [go_sem]) ?_
          have zz : W7.cell? ⟨w.heap.size, 0, none⟩ = some (.pointer (some ⟨s, 0, none⟩)) := by rw [cell_of_row _ _ _ _ _ _ HB7.out.a]; rfl
          obtain ⟨_, m0, m1, m2, m3, m4, m5⟩ := HBx.out W7 HB7.out.a HB7.out.m
          refine (doEnd_no _ s _ _ mv' (n + 1) S2 w3.heap.size w.heap.size (w.heap.size + 1) g .returning W7 a3 a4 _ q3 _ q4 E k count HS7.out.st g0 zz m3 m2 HB7.out.s3 HE7.out (by rw [← hEE]; exact hE) (by unfold maxLen; omega) (by omega) (by have := HC0.out; omega) (by have := HC0.out; omega)).mono ?_
          rintro e u' w'' ⟨rfl, rfl, ⟨mv2, h8⟩, t8⟩
          refine ⟨_, results_tmp rfl _ _ _, by rw [HF.out]; rfl, ?_⟩
          rw [HF.out]
          have hw7 : w.heap.size ≤ W7.heap.size := HT7.out.size
          refine ⟨⟨Z6, _, mv2, HS7.out.own t8 h8 (fun i hi => hi.imp (fun h => h) fun h => h.1), HZ6.out, fun i hi => ?_⟩, HT7.out.trans' t8 fun i hi hy => ?_⟩
          · rcases hi with hi | hi
            · exact HY2.out i hi
            · exact .inr (by omega)
          · rcases HY2.out i hy with h | h
            · exact .inr (.inl h)
            · omega
        · have HF : Hid (R = (0, D1, J1, S2)) := HRR
          go_upto_region 11 with (fail)
          clear hW7 f0 f1 HRR
          go_wp2
          refine leaves_cons (f := 92) (args := #[.pointer (some ⟨w3.heap.size, 0, none⟩), .pointer (some ⟨w.heap.size, 0, none⟩), .pointer (some ⟨w.heap.size + 1, 0, none⟩), .pointer (some ⟨g, 0, none⟩)]) (by simp) (by simp [go_sem]) ?_
          refine (doEnd_yes _ _ _ _ .returning W7 g0).mono ?_
          rintro e u' w'' ⟨rfl, rfl, rfl⟩
          refine ⟨_, results_tmp rfl _ _ _, by rw [HF.out]; rfl, ?_⟩
          rw [HF.out]
          exact ⟨⟨Z6, _, mv', HS7.out.more (by omega), HZ6.out, HY2.out⟩, HT7.out⟩
  · have hq0b : (q.2.2 != 0) = true := by simp [hq0]
    have HF : Hid (R = (q.2.2, D, J, S)) := by show _ = _; rw [HR.out]; unfold doG; rw [if_pos hq0]
    clear HR
    go_wp2
    exact ⟨_, results_tmp rfl _ _ _, by rw [HF.out]; rfl, by rw [HF.out]; exact StoX.below (belowN HB.out HB2.out) (StoX.refl (HSt.out.below HB2.out) (Below.refl _ _) (by omega))⟩
end Go.Proofs.YtilkdeghknjjhaaGreatDoor
/- The store: stopIfFailed, mutation. -/
namespace Go.Proofs.YtilkdeghknjjhaaGreatDoor
open Go.RowKit M Go.Maps
set_option linter.unusedVariables false

/-- Does a clock cover a dot? -/
noncomputable def covB (l : List (Int × Int)) (n c : Int) : Bool := open Classical in if Clk l ∧ Dot n c ∧ c ≤ cS l n then true else false
theorem covers_f (v : Value) (l : List (Int × Int)) (n c : Int) (w : World) (hrd : Rd w v l) :
    Calls Tryz.prog 89 #[v, .int .i64 n, .int .i64 c] w fun e w' => e = .returned (.bool (covB l n c)) ∧ Below w.heap.size w w' :=
  (Covers_any v l n c w hrd).mono fun e w' ⟨r, he, hr, hb⟩ => by
    refine ⟨?_, hb⟩
    rw [he]
    unfold covB
    congr 2
    cases r
    · rw [if_neg fun h => Bool.false_ne_true (hr.2 h)]
    · rw [if_pos (hr.1 rfl)]
def Mt.z : Mt := ⟨false, 0, 0, ⟨#[]⟩, [], ⟨#[]⟩⟩
/-- What mutation tells of a store that is open. -/
noncomputable def mutF (S : St) (k v c : ByteArray) : Mt × Int :=
  if keyOK k = false ∨ 200 < v.size then (Mt.z, 1)
  else if decN (bs c) ≠ 0 ∨ covB (decC (bs c)) S.node (S.cnt + 1) = true then (Mt.z, 2)
  else if S.ro = true then (Mt.z, 4)
  else (⟨false, S.node, S.cnt + 1, k, decC (bs c), v⟩, 0)
theorem result_smut (tmps : Array Value) (w : World) (g : Nat) (cs : Array Value) (n : Int) (hs : cs.size = 6) (h4 : tmps.getD 8 undef = .pointer (some ⟨g, 0, none⟩)) (h5 : tmps.getD 9 undef = .int .i64 n) (hg : w.heap[g]? = some (.cells cs 111 (0, 0))) :
    (results Tryz.f49 tmps).run Tryz.prog w = .ok (.tuple #[.agg cs, .int .i64 n]) w := by
  have hl := run_loadVar_row (P := Tryz.prog) w g 111 111 cs (0, 0) _ hg Tryz.underlying111 rfl (by rw [hs]; exact infoMt)
  have h4' : tmps[8]?.getD undef = .pointer (some ⟨g, 0, none⟩) := by simpa using h4
  have h5' : tmps[9]?.getD undef = .int .i64 n := by simpa using h5
  simp [results, Tryz.results49, h4', h5', asAddr, hl]
/-- What mutation leaves. -/
def MutEnd (w : World) (q : Mt × Int) (e : Ending) (w' : World) : Prop :=
  ∃ vc, e = .returned (.tuple #[mtV q.1 vc, .int .i64 q.2]) ∧ Rd w' vc q.1.c ∧ InZ (fun k => w.heap.size ≤ k ∧ k < w'.heap.size) vc ∧ Below w.heap.size w w'
theorem mutEnd_z (w X : World) (n : Int) (hb : Below w.heap.size w X) (hr : X.heap[w.heap.size]? = some (.cells mtZ 111 (0, 0))) : MutEnd w (Mt.z, n) (.returned (.tuple #[.agg mtZ, .int .i64 n])) (X.setRow w.heap.size mtZ) :=
  ⟨.slice none 0 0, rfl, Rd.nil _, fun k hk => by simp [Value.ownBlock] at hk, below_setRow hb (Nat.le_refl _) _⟩

set_option maxRecDepth 20000 in
set_option maxHeartbeats 400000 in
/-- Behind a call whose answer is e. -/
theorem stop_any (s : Nat) (a : Nat) (ro : Bool) (n : Int) (u : FrameMode) (w : World) (c8 : w.cell? ⟨s, 8, none⟩ = some (.bool ro)) (f8 : w.frozen? ⟨s, 8, none⟩ = false) (ha : w.cell? ⟨a, 0, none⟩ = some (.int .i64 n)) :
    CallsD Tryz.prog 40 #[.pointer (some ⟨s, 0, none⟩), .pointer (some ⟨a, 0, none⟩)] u w fun e u' w' => u' = u ∧ (e = .returned (.tuple #[]) ∧ w' = if n = 7 then w.setCell ⟨s, 8, none⟩ (.bool true) else w) := by
  by_cases h7 : n = 7
  · have h7b : (n == 7) = true := by simp [h7]
    rw [if_pos h7]
    go_enter_d Tryz.func40, Tryz.ntmps40
    go_wp2
    go_end0
    exact ⟨rfl, rfl⟩
  · have h7b : (n == 7) = false := by simp [h7]
    rw [if_neg h7]
    go_enter_d Tryz.func40, Tryz.ntmps40
    go_wp2
    go_end0
    exact ⟨rfl, rfl⟩

theorem gives_store_row {P : Program} {K : Value → World → Prop} {o : Oper} {a : Act} {w : World} (ty : TypeId) (x y : Operand) (ho : o.op = .store ty x y) (g : Nat) (cells : Array Value) (hx : a.eval x = .pointer (some ⟨g, 0, none⟩)) (hy : a.eval y = .agg cells)
    (t : TypeId) (old : Array Value) (hg : w.heap[g]? = some (.cells old t (0, 0))) (hi : (P.info? ty).map (·.size) = some cells.size) (hold : old.size = cells.size) (h1 : cells.all (·.oneCell') = true) (h : K undef (w.setRow g cells)) : gives P K ((execOp a.eval o).run P w) := by
  unfold execOp
  simp only [ho, hx, hy, Instr.storeAt, Instr.sureAddr, Sem.run_bind, Sem.run_pure, Result.andThen_ok, run_storeVar_row w g t ty old cells hg hi hold h1]
  exact h
/-- The region that makes the mutation: what it has told so far. -/
def MutPh (w w4 : World) (r : Array Value) (b : Bool) (X : World) : Prop := Tr (One w.heap.size) w4 X ∧ X.heap[w.heap.size]? = some (.cells (if b = true then r else mtZ) 111 (0, 0))
theorem MutPh.row0 {w w4 X : World} {r : Array Value} {b : Bool} (h : MutPh w w4 r b X) (hb : b = false) : X.heap[w.heap.size]? = some (.cells mtZ 111 (0, 0)) := by
  have := h.2
  rw [hb] at this
  exact this
theorem MutPh.below {w w4 X X' : World} {r : Array Value} {b : Bool} (h : MutPh w w4 r b X) (hb : Below X.heap.size X X') : MutPh w w4 r b X' := ⟨h.1.trans (below_tr hb _), heap_later hb h.2⟩
theorem MutPh.store {w w4 X : World} {r : Array Value} {b : Bool} (h : MutPh w w4 r b X) : MutPh w w4 r true (X.setRow w.heap.size r) :=
  ⟨⟨h.1.os, h.1.tape, h.1.output, by have := h.1.size; simp [World.setRow]; exact this, fun i hi hz => (setRow_other X w.heap.size i r (fun e => hz e)).trans (h.1.block i hi hz)⟩, setRow_heap _ _ _ _ _ _ h.2⟩

set_option maxRecDepth 20000 in
set_option maxHeartbeats 3200000 in
theorem smut_any (Y : Nat → Prop) (s : Nat) (dv mv : Value) (jb : Nat) (n : Nat) (S : St) (k v c : ByteArray) (w : World) (h : StIn Y w s dv (.pointer (some ⟨jb, 0, none⟩)) mv n S) (hk : k.size ≤ 1000000000) (hv : v.size ≤ 1000000000) (hc : c.size ≤ 1000000000) (hc0 : 0 ≤ S.cnt) (hc2 : S.cnt ≤ 4611686018427387904) :
    Calls Tryz.prog 49 #[.pointer (some ⟨s, 0, none⟩), .string k, .string v, .string c] w fun e w' => MutEnd w (mutF S k v c) e w' := by
  have HMF : Hid (mutF S k v c = if keyOK k = false ∨ 200 < v.size then (Mt.z, 1) else if decN (bs c) ≠ 0 ∨ covB (decC (bs c)) S.node (S.cnt + 1) = true then (Mt.z, 2) else if S.ro = true then (Mt.z, 4) else (⟨false, S.node, S.cnt + 1, k, decC (bs c), v⟩, 0)) := rfl
  obtain ⟨R, hR⟩ : ∃ R, mutF S k v c = R := ⟨_, rfl⟩
  rw [hR] at HMF ⊢
  obtain ⟨W, hW, HB, HM⟩ : ∃ W, (w.alloc (.cells mtZ 111)) = W ∧ Hid (Below w.heap.size w W) ∧ Hid (W.heap[w.heap.size]? = some (.cells mtZ 111 (0, 0))) :=
    ⟨_, rfl, (Below.refl _ _).alloc (Nat.le_refl _) _, heap_alloc_new w _⟩
  have HWs : Hid (w.heap.size < W.heap.size) := by show _ < _; rw [← hW]; simp
  unfold mtZ at hW
  have HS : Hid (StIn Y W s dv (.pointer (some ⟨jb, 0, none⟩)) mv n S) := h.below HB.out
  have HX : Hid (∀ X, Below W.heap.size W X → X.heap[w.heap.size]? = some (.cells mtZ 111 (0, 0)) ∧ Below w.heap.size w X ∧ X.cell? ⟨s, 1, none⟩ = some (.int .i64 S.node) ∧ X.cell? ⟨s, 6, none⟩ = some (.int .i64 S.cnt) ∧ X.cell? ⟨s, 8, none⟩ = some (.bool S.ro)) := fun X hX =>
    ⟨heap_later hX HM.out, belowN HB.out hX, ((HS.out.below hX).cell 1).trans rfl, ((HS.out.below hX).cell 6).trans rfl, ((HS.out.below hX).cell 8).trans rfl⟩
  have HCl : Hid (Calls Tryz.prog 39 #[.pointer (some ⟨s, 0, none⟩)] W fun e w' => e = .returned (.bool false) ∧ w' = W) := closed_no Y s jb dv mv n S W HS.out
  have HK : Hid (∀ X, Calls Tryz.prog 53 #[.string k] X fun e w' => e = .returned (.bool (keyOK k)) ∧ w' = X) := fun X => isKey_any k X
  have HD : Hid (∀ X, Calls Tryz.prog 88 #[.string c] X fun e w' => ∃ a l cap, e = .returned (.tuple #[.slice a l cap, .int .i64 (decN (bs c))]) ∧ Rd w' (.slice a l cap) (decC (bs c)) ∧ InZ (fun k => X.heap.size ≤ k ∧ k < w'.heap.size) (.slice a l cap) ∧ Below X.heap.size X w') := fun X => by
    have := Decode_f (bs c) X (by rw [bs_len]; exact hc)
    rw [ba_bs] at this
    refine this.mono ?_
    rintro e w' ⟨vv, rfl, ho, hb⟩
    obtain ⟨a, cap, rfl⟩ := own_shape ho
    exact ⟨_, _, _, rfl, Rd.own ho rfl, fun i hi => ho.lt i hi, hb⟩
  have HCo : Hid (∀ X a l cap, Rd X (.slice a l cap) (decC (bs c)) → Calls Tryz.prog 89 #[.slice a l cap, .int .i64 S.node, .int .i64 (S.cnt + 1)] X fun e w' => e = .returned (.bool (covB (decC (bs c)) S.node (S.cnt + 1))) ∧ Below X.heap.size X w') := fun X a l cap hr => covers_f _ _ _ _ X hr
  have HSC : Hid (∀ (t : ByteArray) X, t.size ≤ 1000000000 → Calls Tryz.prog 90 #[.string t] X fun e w' => e = .returned (.string t) ∧ Below X.heap.size X w') := fun t X ht => Clone_any t X ht
  have HSs : Hid (∀ X, Below W.heap.size W X → X.heap[s]? = some (.cells #[dv, .int .i64 S.node, .int .i64 S.every, .int .i64 S.roll, .pointer (some ⟨jb, 0, none⟩), mv, .int .i64 S.cnt, .int .i64 S.held, .bool S.ro] 86 (0, 0))) := fun X hX => (HS.out.below hX).hs
  have hcw : IntKind.i64.wrap (S.cnt + 1) = S.cnt + 1 := wrap_in _ (by omega) (by omega)
  obtain ⟨N, hN⟩ : ∃ N, decN (bs c) = N := ⟨_, rfl⟩
  obtain ⟨C, hC⟩ : ∃ C, decC (bs c) = C := ⟨_, rfl⟩
  obtain ⟨cv, hcv⟩ : ∃ cv, covB C S.node (S.cnt + 1) = cv := ⟨_, rfl⟩
  obtain ⟨kb, hkb⟩ : ∃ kb, keyOK k = kb := ⟨_, rfl⟩
  rw [hN, hC] at HD
  rw [hC, hcv] at HCo
  rw [hkb] at HK
  rw [hN, hC, hcv, hkb] at HMF
  clear hN hC hcv hkb h hR HS HB
  cases kb
  · have HF : Hid (R = (Mt.z, 1)) := by show _ = _; rw [HMF.out, if_pos (.inl rfl)]
    clear HMF HD HCo HSC
    go_enter Tryz.func49, Tryz.ntmps49
    go_upto_region 1 with (fail)
    clear hW
    go_wp2_with fail
    refine HCl.out.mono ?_
    rintro e w1 ⟨rfl, rfl⟩
    obtain ⟨hX1, hB1, c1, c6, c8⟩ := HX.out w1 (Below.refl _ _)
    go_wp2_with fail
    refine (HK.out w1).mono ?_
    rintro e w2 ⟨rfl, rfl⟩
    go_wp2_with (first
      | (refine wpList_store_row rfl 111 _ _ rfl w.heap.size mtZ rfl rfl 111 mtZ hX1 infoMt rfl (one_mt _ _ _ _ _ _ _ _) ?_))
    exact bodyPost_ret (result_smut _ _ w.heap.size mtZ 1 rfl rfl rfl (setRow_heap _ _ _ _ _ _ hX1)) rfl (by rw [HF.out]; exact mutEnd_z w _ 1 hB1 hX1)
  · by_cases hv2 : 200 < v.size
    · have HF : Hid (R = (Mt.z, 1)) := by show _ = _; rw [HMF.out, if_pos (.inr hv2)]
      have hv3 : (200 : Int) < (v.size : Int) := by omega
      clear HMF HD HCo HSC
      go_enter Tryz.func49, Tryz.ntmps49
      go_upto_region 1 with (fail)
      clear hW
      go_wp2_with fail
      refine HCl.out.mono ?_
      rintro e w1 ⟨rfl, rfl⟩
      obtain ⟨hX1, hB1, c1, c6, c8⟩ := HX.out w1 (Below.refl _ _)
      go_wp2_with fail
      refine (HK.out w1).mono ?_
      rintro e w2 ⟨rfl, rfl⟩
      go_wp2_with (first
        | (refine wpList_store_row rfl 111 _ _ rfl w.heap.size mtZ rfl rfl 111 mtZ hX1 infoMt rfl (one_mt _ _ _ _ _ _ _ _) ?_))
      exact bodyPost_ret (result_smut _ _ w.heap.size mtZ 1 rfl rfl rfl (setRow_heap _ _ _ _ _ _ hX1)) rfl (by rw [HF.out]; exact mutEnd_z w _ 1 hB1 hX1)
    · have hv3 : ¬ (200 : Int) < (v.size : Int) := by omega
      go_enter Tryz.func49, Tryz.ntmps49
      go_upto_region 1 with (fail)
      clear hW
      go_wp2_with fail
      refine HCl.out.mono ?_
      rintro e w1 ⟨rfl, rfl⟩
      obtain ⟨hX1, hB1, c1, c6, c8⟩ := HX.out w1 (Below.refl _ _)
      go_wp2_with fail
      refine (HK.out w1).mono ?_
      rintro e w2 ⟨rfl, rfl⟩
      go_upto_region 6 with (fail)
      go_wp2_with fail
      refine (HD.out w2).mono ?_
      rintro e w3 ⟨a, l, cap, rfl, hrd, hz, hb3⟩
      obtain ⟨hX3, hB3, e1, e6, e8⟩ := HX.out w3 hb3
      clear HCl HK HD c1 c6 c8
      by_cases hN : N = 0
      · have hNb : (N != 0) = false := by simp [hN]
        subst hN
        cases cv
        · go_wp2_with fail
          refine (HCo.out w3 _ _ _ hrd).mono ?_
          rintro e w4 ⟨rfl, hb4⟩
          have hb04 := belowN hb3 hb4
          obtain ⟨hX4, hB4, q1, q6, q8⟩ := HX.out w4 hb04
          have HRd : Hid (Rd w4 (.slice a l cap) C) := hrd.below hb4
          cases hro : S.ro
          · have HF : Hid (R = (⟨false, S.node, S.cnt + 1, k, C, v⟩, 0)) := by show _ = _; rw [HMF.out, if_neg (fun hh => hh.elim (fun h => by cases h) hv2), if_neg (fun hh => hh.elim (fun h => h rfl) (fun h => by cases h)), if_neg (by rw [hro]; simp)]
            rw [hro] at q8
            clear HMF HCo hrd hX3 hB3 e1 e6 e8 hX1 hB1
            go_upto_region 11 with (fail)
            have hS := hb04
            have hne : w.heap.size ≠ s := fun e => by rw [e, HSs.out w4 hb04] at hX4; injection hX4 with hX4; injection hX4 with _ h2 _; exact absurd h2 (by decide)
            obtain ⟨r0, hr0⟩ : ∃ r0, (#[.bool false, .int .i64 S.node, .int .i64 (S.cnt + 1), .string k, .slice a l cap, .string v] : Array Value) = r0 := ⟨_, rfl⟩
            have HZ : Hid (InZ (fun i => w.heap.size < i ∧ i < w4.heap.size) (.slice a l cap)) := fun i hi => by
              have := hz i hi
              have := HWs.out
              have := hb4.size
              omega
            refine wp_region_flow 65 [] (fun _ => #[.pointer (some ⟨s, 0, none⟩), .string k, .string v, .string c, undef, undef, undef, undef, .pointer (some ⟨w.heap.size, 0, none⟩), .int .i64 0, .int .i64 (S.cnt + 1), .slice a l cap, .int .i64 0, .pointer (some ⟨s, 0, none⟩), .bool false, undef, .string k, .bool true, .bool false, .bool false, .string v, .int .i64 v.size, .bool (decide ((200 : Int) < v.size)), .bool (decide ((200 : Int) < v.size)), undef, .pointer (some ⟨s, 0, none⟩), .pointer (some ⟨s, 0, none⟩), .pointer (some ⟨s, 6, none⟩), .int .i64 S.cnt, .int .i64 (S.cnt + 1), .tuple #[.slice a l cap, .int .i64 0], .string c, .tuple #[.slice a l cap, .int .i64 0], .slice a l cap, .int .i64 0, .int .i64 0, .bool false, .bool false, .slice a l cap, .pointer (some ⟨s, 0, none⟩), .pointer (some ⟨s, 0, none⟩), .pointer (some ⟨s, 1, none⟩), .pointer (some ⟨s, 1, none⟩), .int .i64 S.node, .int .i64 (S.cnt + 1), .bool false, .bool false, undef, .pointer (some ⟨s, 0, none⟩), .pointer (some ⟨s, 0, none⟩), .pointer (some ⟨s, 8, none⟩), .bool false, undef, .pointer (some ⟨s, 0, none⟩), .pointer (some ⟨s, 0, none⟩), .pointer (some ⟨s, 1, none⟩), .pointer (some ⟨s, 1, none⟩), .int .i64 S.node, .int .i64 (S.cnt + 1), .string k, .string k, .slice a l cap, .string v, .string v, .agg #[.bool false, .int .i64 S.node, .int .i64 (S.cnt + 1), .string k, .slice a l cap, .string v]])
              (fun L X => MutPh w w4 r0 (L 12) X) (fun _ _ => True) (fun _ _ _ => True)
              (by kernel_rfl) (by kernel_rfl) (fun u => rfl) (fun u k hk => by simp at hk) (fun u v k hk => rfl) (fun k hk => by simp at hk) rfl ?_ (fun _ _ _ _ _ _ => trivial) ⟨(Tr.refl _ w4).drew, hX4⟩ (eachOp_at ?_) ?_
            · intro u; exact flow_keep [0, 1, 2, 3, 4, 5, 6, 7, 8, 10, 11, 12, 13, 14, 15, 16, 17, 18, 19, 20, 21, 22, 23, 24, 25, 26, 27, 28, 29, 30, 31, 32, 33, 34, 35, 36, 37, 38, 39, 40, 41, 42, 43, 44, 45, 46, 47, 48, 49, 50, 51, 52] (by kernel_rfl) rfl rfl (by intro k hk; simp only [List.mem_cons, List.not_mem_nil, or_false] at hk; rcases hk with rfl | rfl | rfl | rfl | rfl | rfl | rfl | rfl | rfl | rfl | rfl | rfl | rfl | rfl | rfl | rfl | rfl | rfl | rfl | rfl | rfl | rfl | rfl | rfl | rfl | rfl | rfl | rfl | rfl | rfl | rfl | rfl | rfl | rfl | rfl | rfl | rfl | rfl | rfl | rfl | rfl | rfl | rfl | rfl | rfl | rfl | rfl | rfl | rfl | rfl | rfl | rfl <;> rfl)
            · simp only [eachOp]
              refine ⟨?_, ?_, ?_, ?_, ?_, ?_, ?_, ?_, ?_, ?_, ?_, ?_, ?_, ?_, trivial⟩
              all_goals
                intro L u X hL hup hcl hX hr
                clear hr
                have f1 : X.cell? ⟨s, 1, none⟩ = some (.int .i64 S.node) := cell_tr hX.1 q1 (fun (e : s = w.heap.size) => hne e.symm)
              · refine wantedI rfl ?_; go_simp; exact ⟨by rw [andI_ne L (by decide)]; exact hX, rfl⟩
              · refine wantedI rfl ?_; go_simp; exact ⟨by rw [andI_ne L (by decide)]; exact hX, rfl⟩
              · refine wantedI rfl ?_; go_simp; exact ⟨by rw [andI_ne L (by decide)]; exact hX, rfl⟩
              · refine wantedI rfl ?_; go_simp; exact ⟨by rw [andI_ne L (by decide)]; exact hX, rfl⟩
              · refine wantedI rfl ?_; go_simp; exact ⟨by rw [andI_ne L (by decide)]; exact hX, rfl⟩
              · refine wantedI rfl ?_; go_simp; exact ⟨by rw [andI_ne L (by decide)]; exact hX, rfl⟩
              · refine wantedI rfl ?_; go_simp; exact ⟨by rw [andI_ne L (by decide)]; exact hX, rfl⟩
              · refine wantedI rfl ?_; go_simp; exact (HSC.out k X hk).mono fun e w' ⟨he, hb⟩ => ⟨_, he, by show MutPh w w4 r0 (andI L 7 12) w'; rw [andI_ne L (by decide)]; exact hX.below hb, rfl⟩
              · refine wantedI rfl ?_; go_simp; exact ⟨by rw [andI_ne L (by decide)]; exact hX, rfl⟩
              · refine wantedI rfl ?_; go_simp; exact ⟨by rw [andI_ne L (by decide)]; exact hX, rfl⟩
              · refine wantedI rfl ?_; go_simp; exact (HSC.out v X hv).mono fun e w' ⟨he, hb⟩ => ⟨_, he, by show MutPh w w4 r0 (andI L 10 12) w'; rw [andI_ne L (by decide)]; exact hX.below hb, rfl⟩
              · refine wantedI rfl ?_; go_simp; exact ⟨by rw [andI_ne L (by decide)]; exact hX, rfl⟩
              · refine wantedI rfl ?_; refine gives_store_row 111 _ _ rfl w.heap.size #[.bool false, .int .i64 S.node, .int .i64 (S.cnt + 1), .string k, .slice a l cap, .string v] rfl rfl 111 mtZ (hX.row0 hL) infoMt rfl (one_mt _ _ _ _ _ _ _ _) ?_; exact ⟨by show MutPh w w4 r0 (andI L 12 12) _; rw [andI_same, hr0]; exact hX.store, trivial, fun d hd => by cases hd⟩
              · refine wantedI rfl ?_; go_simp; exact ⟨by rw [andI_ne L (by decide)]; exact hX, rfl⟩
            · intro L u X hL hX hr
              have h1 : L 12 = true := hL 12 (by decide)
              rw [h1] at hX
              go_wp2
              have hsz := HWs.out
              refine bodyPost_ret (result_smut _ _ w.heap.size r0 0 (by rw [← hr0]; rfl) rfl rfl hX.2) rfl ?_
              rw [HF.out]
              refine ⟨.slice a l cap, by rw [← hr0]; rfl, HRd.out.tr hX.1 (fun i hi (e : i = w.heap.size) => by have := HZ.out i hi; omega), fun i hi => ?_, hB4.trans (hX.1.below hB4.size (fun i hi (e : i = w.heap.size) => by omega))⟩
              have h3 := HZ.out i hi
              have h4 := hX.1.size
              omega
          · have HF : Hid (R = (Mt.z, 4)) := by show _ = _; rw [HMF.out, if_neg (fun hh => hh.elim (fun h => by cases h) hv2), if_neg (fun hh => hh.elim (fun h => h rfl) (fun h => by cases h)), if_pos hro]
            rw [hro] at q8
            clear HMF HCo
            go_wp2_with (first
              | (refine wpList_store_row rfl 111 _ _ rfl w.heap.size mtZ rfl rfl 111 mtZ hX4 infoMt rfl (one_mt _ _ _ _ _ _ _ _) ?_))
            exact bodyPost_ret (result_smut _ _ w.heap.size mtZ 4 rfl rfl rfl (setRow_heap _ _ _ _ _ _ hX4)) rfl (by rw [HF.out]; exact mutEnd_z w _ 4 hB4 hX4)
        · have HF : Hid (R = (Mt.z, 2)) := by show _ = _; rw [HMF.out, if_neg (fun hh => hh.elim (fun h => by cases h) hv2), if_pos (.inr rfl)]
          clear HMF
          go_wp2_with fail
          refine (HCo.out w3 _ _ _ hrd).mono ?_
          rintro e w4 ⟨rfl, hb4⟩
          obtain ⟨hX4, hB4, q1, q6, q8⟩ := HX.out w4 (belowN hb3 hb4)
          go_wp2_with (first
            | (refine wpList_store_row rfl 111 _ _ rfl w.heap.size mtZ rfl rfl 111 mtZ hX4 infoMt rfl (one_mt _ _ _ _ _ _ _ _) ?_))
          exact bodyPost_ret (result_smut _ _ w.heap.size mtZ 2 rfl rfl rfl (setRow_heap _ _ _ _ _ _ hX4)) rfl (by rw [HF.out]; exact mutEnd_z w _ 2 hB4 hX4)
      · have HF : Hid (R = (Mt.z, 2)) := by show _ = _; rw [HMF.out, if_neg (fun hh => hh.elim (fun h => by cases h) hv2), if_pos (.inl hN)]
        have hNb : (N != 0) = true := by simp [hN]
        clear HMF HCo
        go_wp2_with (first
          | (refine wpList_store_row rfl 111 _ _ rfl w.heap.size mtZ rfl rfl 111 mtZ hX3 infoMt rfl (one_mt _ _ _ _ _ _ _ _) ?_))
        exact bodyPost_ret (result_smut _ _ w.heap.size mtZ 2 rfl rfl rfl (setRow_heap _ _ _ _ _ _ hX3)) rfl (by rw [HF.out]; exact mutEnd_z w _ 2 hB3 hX3)
end Go.Proofs.YtilkdeghknjjhaaGreatDoor
