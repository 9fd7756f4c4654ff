/- The journal: what is taken in: a record of a mutation. -/
import Derived.Test.YtilkdeghknjjhaaGreatDoorPart34
import Derived.Test.YtilkdeghknjjhaaGreatDoorPart41
import Derived.Deep.RegionHeld3
namespace Go.Proofs.YtilkdeghknjjhaaGreatDoor
open Go.RowKit M Go.Maps
set_option linter.unusedVariables false

/-- What takes in lies at block p: it redoes and restores by the store at s. -/
def repRow (s : Nat) (mg : Value) : Array Value := #[.func (.func 86) #[.pointer (some ⟨s, 0, none⟩)] #[], .func (.func 87) #[.pointer (some ⟨s, 0, none⟩)] #[], mg]
def RepAt (w : World) (p s : Nat) (mg : Value) : Prop := w.heap[p]? = some (.cells (repRow s mg) 220 (0, 0))
theorem RepAt.cell {w : World} {p s : Nat} {mg : Value} (h : RepAt w p s mg) (o : Nat) : w.cell? ⟨p, o, none⟩ = (repRow s mg)[o]? := cell_of_row _ _ _ _ _ _ h
theorem RepAt.frozen {w : World} {p s : Nat} {mg : Value} (h : RepAt w p s mg) (o : Nat) : w.frozen? ⟨p, o, none⟩ = false := frozen_of_row _ _ _ _ _ h
theorem RepAt.set {w : World} {p s : Nat} {mg : Value} (h : RepAt w p s mg) (u : Value) : RepAt (w.setCell ⟨p, 2, none⟩ u) p s u := heap_setCell_self h 2 _
theorem RepAt.below {w w' : World} {p s : Nat} {mg : Value} (h : RepAt w p s mg) (b : Below w.heap.size w w') : RepAt w' p s mg := heap_later b h
theorem RepAt.tr {X : Nat → Prop} {w w' : World} {p s : Nat} {mg : Value} (h : RepAt w p s mg) (b : Tr X w w') (hz : ¬ X p) : RepAt w' p s mg := b.heap h hz
/-- What is taken in of a record of a mutation behind its mark. -/
noncomputable def recF (S : St) (R : Mt × Rr) : Bool × St := if R.2.s = true then (false, S) else redoF S R.1
/-- The blocks that a record may turn. -/
def Zr (Y : Nat → Prop) (g p : Nat) : Nat → Prop := fun k => k = g ∨ k = p ∨ Y k
theorem RdrAt.setO {w : World} {g p o : Nat} {t : ByteArray} {r : Rr} (h : RdrAt w g t r) (hg : g ≠ p) (u : Value) : RdrAt (w.setCell ⟨p, o, none⟩ u) g t r := by
  unfold RdrAt at h ⊢
  rw [Below.heap_setCell _ _ _ _ hg]; exact h
theorem StIn.wide0 {Y : Nat → Prop} {w : World} {s : Nat} {dv jv mv : Value} {n : Nat} {S : St} (h : StIn Y w s dv jv mv n S) {w0 : World} : StIn (Yn Y w0.heap.size w.heap.size) w s dv jv mv n S := h.wide w0.heap.size

set_option maxRecDepth 20000 in
set_option maxHeartbeats 1600000 in
theorem record_any (Y : Nat → Prop) (g p s : Nat) (dv jv mv mg : Value) (n : Nat) (S : St) (t : ByteArray) (r : Rr) (gone : Bool) (w : World) (h : StIn Y w s dv jv mv n S) (hr : RdrAt w g t r) (hp : RepAt w p s mg) (hf : Fits t r) (hg : ¬ Y g) (hpY : ¬ Y p) (hgp : g ≠ p) (hgs : g < w.heap.size) (hps : p < w.heap.size)
    (hm : (rlen (bs t) r).1 = if gone = true then 2 else 1) (hn : n < 1000000000000) (hc0 : 0 ≤ S.cnt) (hc1 : S.cnt ≤ 4611686018427387904) :
    Calls Tryz.prog 232 #[.pointer (some ⟨p, 0, none⟩), .pointer (some ⟨g, 0, none⟩)] w fun e w' => e = .returned (.bool (recF S (rmut (bs t) (rlen (bs t) r).2 gone)).1) ∧ RdrAt w' g t (rmut (bs t) (rlen (bs t) r).2 gone).2 ∧ RepAt w' p s (.pointer none) ∧
      (∃ mv', StIn (Yn Y w.heap.size w'.heap.size) w' s dv jv mv' (n + 1) (recF S (rmut (bs t) (rlen (bs t) r).2 gone)).2) ∧ Tr (Zr Y g p) w w' := by
  have hL := length_any g t r w hr hf
  rw [hm] at hL
  obtain ⟨r1, hr1⟩ : ∃ q, (rlen (bs t) r).2 = q := ⟨_, rfl⟩
  have hf1 : Fits t r1 := by rw [← hr1]; exact rlen_fits hf
  have HM : Hid (∀ X, RdrAt X g t r1 → Calls Tryz.prog 264 #[.pointer (some ⟨g, 0, none⟩), .bool gone] X fun e w' => ∃ vc, e = .returned (.agg #[.bool gone, .int .i64 (rmut (bs t) r1 gone).1.node, .int .i64 (rmut (bs t) r1 gone).1.count, .string (rmut (bs t) r1 gone).1.k, vc, .string (rmut (bs t) r1 gone).1.v]) ∧
      w'.ownsRow X.heap.size 183 2 vc (rmut (bs t) r1 gone).1.c.length (cellsE (rmut (bs t) r1 gone).1.c) ∧ RdrAt w' g t (rmut (bs t) r1 gone).2 ∧ Tr (One g) X w') := fun X hX => mutation_any g t r1 gone X hX hf1
  have hkk : (rmut (bs t) r1 gone).1.k.size ≤ 1000000 := by
    have := rwords_len (bs t) (rclk (bs t) (rdot (bs t) r1).2).2
    show (ba _).size ≤ _
    rw [ba_size]; omega
  have HRd : Hid (∀ X vc Y' mv', StIn Y' X s dv jv mv' n S → Rd X vc (rmut (bs t) r1 gone).1.c → Calls Tryz.prog 86 #[.pointer (some ⟨s, 0, none⟩), mtV (rmut (bs t) r1 gone).1 vc] X fun e w' => e = .returned (.bool (redoF S (rmut (bs t) r1 gone).1).1) ∧ (∃ mv', StIn (Yn Y' X.heap.size w'.heap.size) w' s dv jv mv' (n + 1) (redoF S (rmut (bs t) r1 gone).1).2) ∧ Tr Y' X w') :=
    fun X vc Y' mv' hX hvc => redo_any Y' s dv jv mv' n S _ vc X hX hvc hkk hn hc0 hc1
  have HF : Hid (recF S (rmut (bs t) r1 gone) = if (rmut (bs t) r1 gone).2.s = true then (false, S) else redoF S (rmut (bs t) r1 gone).1) := rfl
  have HD : Hid ((rmut (bs t) r1 gone).1.del = gone) := rfl
  rw [hr1]
  obtain ⟨⟨M, r2⟩, hR⟩ : ∃ q, rmut (bs t) r1 gone = q := ⟨_, rfl⟩
  rw [hR] at HM HRd HF HD ⊢
  obtain ⟨RF, hRF⟩ : ∃ q, recF S (M, r2) = q := ⟨_, rfl⟩
  obtain ⟨RD, hRD⟩ : ∃ q, redoF S M = q := ⟨_, rfl⟩
  rw [hRF] at HF ⊢
  simp only at HM HRd HF HD
  rw [hRD] at HRd HF
  rw [hr1] at hL
  have H0 : Hid (StIn Y w s dv jv mv n S ∧ RepAt w p s mg) := ⟨h, hp⟩
  have hpg : ¬ One g p := fun e => hgp (Eq.symm e)
  clear hR hRF hRD hr1 hf1 hkk hm hf h hp hr
  cases gone
  · skip
    go_enter Tryz.func232, Tryz.ntmps232
    go_wp2_with fail
    refine hL.mono ?_
    rintro e w1 ⟨rfl, h1, t1⟩
    have hS1 : StIn Y w1 s dv jv mv n S := H0.out.1.tr t1 (fun k hk (e : k = g) => hg (e ▸ hk))
    have hP1 : RepAt w1 p s mg := H0.out.2.tr t1 hpg
    have fz := hP1.frozen
    have hP1c : w1.cell? ⟨p, 2, none⟩ = some mg := (hP1.cell 2).trans rfl
    obtain ⟨W1, hW1, HR1, HS1, HP1, HT1⟩ : ∃ W1, w1.setCell ⟨p, 2, none⟩ (.pointer none) = W1 ∧ RdrAt W1 g t r1 ∧ Hid (StIn Y W1 s dv jv mv n S) ∧ Hid (RepAt W1 p s (.pointer none)) ∧ Hid (Tr (Zr Y g p) w W1) :=
      ⟨_, rfl, h1.setO hgp _, hS1.tr ((Tr.refl (One p) w1).set1 2 _) (fun k hk (e : k = p) => hpY (e ▸ hk)), hP1.set _, (t1.mono fun k _ (e : k = g) => .inl e).trans ((Tr.refl (Zr Y g p) w1).setCell (p := ⟨p, 2, none⟩) (.inr (.inl rfl)) _)⟩
    clear hS1 hP1 h1 t1
    go_upto_region 6 with (fail)
    clear hW1 fz hP1c
    go_wp2_with fail
    refine (HM.out W1 HR1).mono ?_
    rintro e w2 ⟨vc, rfl, ho, h2, t2⟩
    obtain ⟨ac, cc, hvc⟩ := own_shape ho
    subst hvc
    obtain ⟨Z2, hZ2, HB2, HS2, HR2, HP2, HT2, Hrow, HCv⟩ : ∃ Z2, w2.alloc (.cells #[.bool false, .int .i64 M.node, .int .i64 M.count, .string M.k, .slice ac M.c.length cc, .string M.v] 111) = Z2 ∧ Hid (w2.heap.size < Z2.heap.size ∧ w.heap.size ≤ w2.heap.size) ∧ Hid (StIn Y Z2 s dv jv mv n S) ∧ Hid (RdrAt Z2 g t r2) ∧ Hid (RepAt Z2 p s (.pointer none)) ∧ Hid (Tr (Zr Y g p) w Z2) ∧
        Z2.heap[w2.heap.size]? = some (.cells #[.bool false, .int .i64 M.node, .int .i64 M.count, .string M.k, .slice ac M.c.length cc, .string M.v] 111 (0, 0)) ∧ Hid (Rd Z2 (.slice ac M.c.length cc) M.c) := by
      refine ⟨_, rfl, ⟨?_, ?_⟩, ?_, ?_, ?_, ?_, heap_alloc_new w2 _, (Rd.own ho rfl).below (belowA (Below.refl _ _))⟩
      · simp
      · exact Nat.le_trans HT1.out.size t2.size
      · exact (HS1.out.tr t2 (fun k hk (e : k = g) => hg (e ▸ hk))).below (belowA (Below.refl _ _))
      · exact h2.below (belowA (Below.refl _ _))
      · exact (HP1.out.tr t2 hpg).below (belowA (Below.refl _ _))
      · exact (HT1.out.trans (t2.mono fun k _ (e : k = g) => .inl e)).trans (below_tr (belowA (Below.refl _ _)) _)
    go_upto_region 7 with (fail)
    clear hZ2 HR1 HM hL ho h2 t2 HS1 HP1 HT1
    have c20 : Z2.cell? ⟨g, 2, none⟩ = some (.bool r2.s) := (HR2.out.cell 2).trans rfl
    have c0 : Z2.cell? ⟨p, 0, none⟩ = some (.func (.func 86) #[.pointer (some ⟨s, 0, none⟩)] #[]) := (HP2.out.cell 0).trans rfl
    have x0 : Z2.cell? ⟨w2.heap.size, 0, none⟩ = some (.bool false) := by rw [cell_of_row _ _ _ _ _ _ Hrow]; rfl
    have x1 : Z2.cell? ⟨w2.heap.size, 1, none⟩ = some (.int .i64 M.node) := by rw [cell_of_row _ _ _ _ _ _ Hrow]; rfl
    have x2 : Z2.cell? ⟨w2.heap.size, 2, none⟩ = some (.int .i64 M.count) := by rw [cell_of_row _ _ _ _ _ _ Hrow]; rfl
    have x3 : Z2.cell? ⟨w2.heap.size, 3, none⟩ = some (.string M.k) := by rw [cell_of_row _ _ _ _ _ _ Hrow]; rfl
    have x4 : Z2.cell? ⟨w2.heap.size, 4, none⟩ = some (.slice ac M.c.length cc) := by rw [cell_of_row _ _ _ _ _ _ Hrow]; rfl
    have x5 : Z2.cell? ⟨w2.heap.size, 5, none⟩ = some (.string M.v) := by rw [cell_of_row _ _ _ _ _ _ Hrow]; rfl
    cases hs : r2.s
    · have hRedo := HRd.out Z2.drew (.slice ac M.c.length cc) Y mv (HS2.out.below (Below.drew (Below.refl _ _))) (HCv.out.below (Below.drew (Below.refl _ _)))
      have HFe : Hid (RF = RD) := by show _ = _; rw [HF.out, hs]; rfl
      unfold mtV at hRedo
      rw [HD.out] at hRedo
      rw [hs] at c20
      have HX : Hid (∀ X, Tr Y Z2.drew X → X.cell? ⟨g, 2, none⟩ = some (.bool false) ∧ X.cell? ⟨p, 0, none⟩ = some (.func (.func 86) #[.pointer (some ⟨s, 0, none⟩)] #[]) ∧ X.cell? ⟨w2.heap.size, 0, none⟩ = some (.bool false) ∧ X.cell? ⟨w2.heap.size, 1, none⟩ = some (.int .i64 M.node) ∧ X.cell? ⟨w2.heap.size, 2, none⟩ = some (.int .i64 M.count) ∧ X.cell? ⟨w2.heap.size, 3, none⟩ = some (.string M.k) ∧ X.cell? ⟨w2.heap.size, 4, none⟩ = some (.slice ac M.c.length cc) ∧ X.cell? ⟨w2.heap.size, 5, none⟩ = some (.string M.v)) := fun X tX => by
        have hnY : ¬ Y w2.heap.size := fun hy => by have := H0.out.1.lt _ hy; have := HB2.out; omega
        exact ⟨cell_tr tX c20 hg, cell_tr tX c0 hpY, cell_tr tX x0 hnY, cell_tr tX x1 hnY, cell_tr tX x2 hnY, cell_tr tX x3 hnY, cell_tr tX x4 hnY, cell_tr tX x5 hnY⟩
      have HEnd : Hid (∀ X mv', StIn (Yn Y Z2.drew.heap.size X.heap.size) X s dv jv mv' (n + 1) RD.2 → Tr Y Z2.drew X → RdrAt X g t r2 ∧ RepAt X p s (.pointer none) ∧ (∃ mv', StIn (Yn Y w.heap.size X.heap.size) X s dv jv mv' (n + 1) RD.2) ∧ Tr (Zr Y g p) w X) := fun X mv' hX tX => by
        have ts : w.heap.size ≤ Z2.drew.heap.size := HT2.out.size
        refine ⟨(HR2.out.below (Below.drew (Below.refl _ _))).tr tX hg, (HP2.out.below (Below.drew (Below.refl _ _))).tr tX hpY, ⟨mv', hX.zone (fun i hi => ?_) (fun i hi => ?_)⟩, (HT2.out.drew).trans (tX.mono fun k _ hy => .inr (.inr hy))⟩
        · rcases hi with hi | hi
          · exact .inl hi
          · exact .inr ⟨by omega, hi.2⟩
        · rcases hi with hi | hi
          · exact Nat.lt_of_lt_of_le (H0.out.1.lt i hi) (Nat.le_trans ts tX.size)
          · exact hi.2
      clear hs Hrow HRd
      go_region_held3 (fun w' => w'.cell? ⟨g, 2, none⟩ = some (.bool false) ∧ w'.cell? ⟨p, 0, none⟩ = some (.func (.func 86) #[.pointer (some ⟨s, 0, none⟩)] #[]) ∧ w'.cell? ⟨w2.heap.size, 0, none⟩ = some (.bool false) ∧ w'.cell? ⟨w2.heap.size, 1, none⟩ = some (.int .i64 M.node) ∧ w'.cell? ⟨w2.heap.size, 2, none⟩ = some (.int .i64 M.count) ∧ w'.cell? ⟨w2.heap.size, 3, none⟩ = some (.string M.k) ∧ w'.cell? ⟨w2.heap.size, 4, none⟩ = some (.slice ac M.c.length cc) ∧ w'.cell? ⟨w2.heap.size, 5, none⟩ = some (.string M.v))
        (first | exact ⟨c20, c0, x0, x1, x2, x3, x4, x5⟩ | assumption)
        (first
          | ((go_at_call 86; refine hRedo.mono ?_; rintro e w3 ⟨rfl, ⟨mv', h3⟩, t3⟩; have hkk := HX.out w3 t3)))
      all_goals
        go_wp2
        go_ret
        obtain ⟨e1, e2, e3, e4⟩ := HEnd.out _ _ h3 t3
        exact ⟨by rw [HFe.out]; rfl, e1, e2, by rw [HFe.out]; exact e3, e4⟩
    · have HFe : Hid (RF = (false, S)) := by show _ = _; rw [HF.out, hs]; rfl
      rw [hs] at c20
      clear hs Hrow HRd
      go_quiet (fail)
      go_wp2
      go_ret
      have hbq := below_drewN (Below.refl Z2.heap.size Z2) nq
      have ts : w.heap.size ≤ Z2.heap.size := HT2.out.size
      have hq := (HS2.out.below hbq).more (Nat.le_succ n)
      refine ⟨by rw [HFe.out]; rfl, HR2.out.below hbq, HP2.out.below hbq, ⟨mv, ?_⟩, HT2.out.trans (below_tr hbq _)⟩
      rw [HFe.out]
      exact hq.wide w.heap.size
  · skip
    go_enter Tryz.func232, Tryz.ntmps232
    go_wp2_with fail
    refine hL.mono ?_
    rintro e w1 ⟨rfl, h1, t1⟩
    have hS1 : StIn Y w1 s dv jv mv n S := H0.out.1.tr t1 (fun k hk (e : k = g) => hg (e ▸ hk))
    have hP1 : RepAt w1 p s mg := H0.out.2.tr t1 hpg
    have fz := hP1.frozen
    have hP1c : w1.cell? ⟨p, 2, none⟩ = some mg := (hP1.cell 2).trans rfl
    obtain ⟨W1, hW1, HR1, HS1, HP1, HT1⟩ : ∃ W1, w1.setCell ⟨p, 2, none⟩ (.pointer none) = W1 ∧ RdrAt W1 g t r1 ∧ Hid (StIn Y W1 s dv jv mv n S) ∧ Hid (RepAt W1 p s (.pointer none)) ∧ Hid (Tr (Zr Y g p) w W1) :=
      ⟨_, rfl, h1.setO hgp _, hS1.tr ((Tr.refl (One p) w1).set1 2 _) (fun k hk (e : k = p) => hpY (e ▸ hk)), hP1.set _, (t1.mono fun k _ (e : k = g) => .inl e).trans ((Tr.refl (Zr Y g p) w1).setCell (p := ⟨p, 2, none⟩) (.inr (.inl rfl)) _)⟩
    clear hS1 hP1 h1 t1
    go_upto_region 6 with (fail)
    clear hW1 fz hP1c
    go_wp2_with fail
    refine (HM.out W1 HR1).mono ?_
    rintro e w2 ⟨vc, rfl, ho, h2, t2⟩
    obtain ⟨ac, cc, hvc⟩ := own_shape ho
    subst hvc
    obtain ⟨Z2, hZ2, HB2, HS2, HR2, HP2, HT2, Hrow, HCv⟩ : ∃ Z2, w2.alloc (.cells #[.bool true, .int .i64 M.node, .int .i64 M.count, .string M.k, .slice ac M.c.length cc, .string M.v] 111) = Z2 ∧ Hid (w2.heap.size < Z2.heap.size ∧ w.heap.size ≤ w2.heap.size) ∧ Hid (StIn Y Z2 s dv jv mv n S) ∧ Hid (RdrAt Z2 g t r2) ∧ Hid (RepAt Z2 p s (.pointer none)) ∧ Hid (Tr (Zr Y g p) w Z2) ∧
        Z2.heap[w2.heap.size]? = some (.cells #[.bool true, .int .i64 M.node, .int .i64 M.count, .string M.k, .slice ac M.c.length cc, .string M.v] 111 (0, 0)) ∧ Hid (Rd Z2 (.slice ac M.c.length cc) M.c) := by
      refine ⟨_, rfl, ⟨?_, ?_⟩, ?_, ?_, ?_, ?_, heap_alloc_new w2 _, (Rd.own ho rfl).below (belowA (Below.refl _ _))⟩
      · simp
      · exact Nat.le_trans HT1.out.size t2.size
      · exact (HS1.out.tr t2 (fun k hk (e : k = g) => hg (e ▸ hk))).below (belowA (Below.refl _ _))
      · exact h2.below (belowA (Below.refl _ _))
      · exact (HP1.out.tr t2 hpg).below (belowA (Below.refl _ _))
      · exact (HT1.out.trans (t2.mono fun k _ (e : k = g) => .inl e)).trans (below_tr (belowA (Below.refl _ _)) _)
    go_upto_region 7 with (fail)
    clear hZ2 HR1 HM hL ho h2 t2 HS1 HP1 HT1
    have c20 : Z2.cell? ⟨g, 2, none⟩ = some (.bool r2.s) := (HR2.out.cell 2).trans rfl
    have c0 : Z2.cell? ⟨p, 0, none⟩ = some (.func (.func 86) #[.pointer (some ⟨s, 0, none⟩)] #[]) := (HP2.out.cell 0).trans rfl
    have x0 : Z2.cell? ⟨w2.heap.size, 0, none⟩ = some (.bool true) := by rw [cell_of_row _ _ _ _ _ _ Hrow]; rfl
    have x1 : Z2.cell? ⟨w2.heap.size, 1, none⟩ = some (.int .i64 M.node) := by rw [cell_of_row _ _ _ _ _ _ Hrow]; rfl
    have x2 : Z2.cell? ⟨w2.heap.size, 2, none⟩ = some (.int .i64 M.count) := by rw [cell_of_row _ _ _ _ _ _ Hrow]; rfl
    have x3 : Z2.cell? ⟨w2.heap.size, 3, none⟩ = some (.string M.k) := by rw [cell_of_row _ _ _ _ _ _ Hrow]; rfl
    have x4 : Z2.cell? ⟨w2.heap.size, 4, none⟩ = some (.slice ac M.c.length cc) := by rw [cell_of_row _ _ _ _ _ _ Hrow]; rfl
    have x5 : Z2.cell? ⟨w2.heap.size, 5, none⟩ = some (.string M.v) := by rw [cell_of_row _ _ _ _ _ _ Hrow]; rfl
    cases hs : r2.s
    · have hRedo := HRd.out Z2.drew (.slice ac M.c.length cc) Y mv (HS2.out.below (Below.drew (Below.refl _ _))) (HCv.out.below (Below.drew (Below.refl _ _)))
      have HFe : Hid (RF = RD) := by show _ = _; rw [HF.out, hs]; rfl
      unfold mtV at hRedo
      rw [HD.out] at hRedo
      rw [hs] at c20
      have HX : Hid (∀ X, Tr Y Z2.drew X → X.cell? ⟨g, 2, none⟩ = some (.bool false) ∧ X.cell? ⟨p, 0, none⟩ = some (.func (.func 86) #[.pointer (some ⟨s, 0, none⟩)] #[]) ∧ X.cell? ⟨w2.heap.size, 0, none⟩ = some (.bool true) ∧ X.cell? ⟨w2.heap.size, 1, none⟩ = some (.int .i64 M.node) ∧ X.cell? ⟨w2.heap.size, 2, none⟩ = some (.int .i64 M.count) ∧ X.cell? ⟨w2.heap.size, 3, none⟩ = some (.string M.k) ∧ X.cell? ⟨w2.heap.size, 4, none⟩ = some (.slice ac M.c.length cc) ∧ X.cell? ⟨w2.heap.size, 5, none⟩ = some (.string M.v)) := fun X tX => by
        have hnY : ¬ Y w2.heap.size := fun hy => by have := H0.out.1.lt _ hy; have := HB2.out; omega
        exact ⟨cell_tr tX c20 hg, cell_tr tX c0 hpY, cell_tr tX x0 hnY, cell_tr tX x1 hnY, cell_tr tX x2 hnY, cell_tr tX x3 hnY, cell_tr tX x4 hnY, cell_tr tX x5 hnY⟩
      have HEnd : Hid (∀ X mv', StIn (Yn Y Z2.drew.heap.size X.heap.size) X s dv jv mv' (n + 1) RD.2 → Tr Y Z2.drew X → RdrAt X g t r2 ∧ RepAt X p s (.pointer none) ∧ (∃ mv', StIn (Yn Y w.heap.size X.heap.size) X s dv jv mv' (n + 1) RD.2) ∧ Tr (Zr Y g p) w X) := fun X mv' hX tX => by
        have ts : w.heap.size ≤ Z2.drew.heap.size := HT2.out.size
        refine ⟨(HR2.out.below (Below.drew (Below.refl _ _))).tr tX hg, (HP2.out.below (Below.drew (Below.refl _ _))).tr tX hpY, ⟨mv', hX.zone (fun i hi => ?_) (fun i hi => ?_)⟩, (HT2.out.drew).trans (tX.mono fun k _ hy => .inr (.inr hy))⟩
        · rcases hi with hi | hi
          · exact .inl hi
          · exact .inr ⟨by omega, hi.2⟩
        · rcases hi with hi | hi
          · exact Nat.lt_of_lt_of_le (H0.out.1.lt i hi) (Nat.le_trans ts tX.size)
          · exact hi.2
      clear hs Hrow HRd
      go_region_held3 (fun w' => w'.cell? ⟨g, 2, none⟩ = some (.bool false) ∧ w'.cell? ⟨p, 0, none⟩ = some (.func (.func 86) #[.pointer (some ⟨s, 0, none⟩)] #[]) ∧ w'.cell? ⟨w2.heap.size, 0, none⟩ = some (.bool true) ∧ w'.cell? ⟨w2.heap.size, 1, none⟩ = some (.int .i64 M.node) ∧ w'.cell? ⟨w2.heap.size, 2, none⟩ = some (.int .i64 M.count) ∧ w'.cell? ⟨w2.heap.size, 3, none⟩ = some (.string M.k) ∧ w'.cell? ⟨w2.heap.size, 4, none⟩ = some (.slice ac M.c.length cc) ∧ w'.cell? ⟨w2.heap.size, 5, none⟩ = some (.string M.v))
        (first | exact ⟨c20, c0, x0, x1, x2, x3, x4, x5⟩ | assumption)
        (first
          | ((go_at_call 86; refine hRedo.mono ?_; rintro e w3 ⟨rfl, ⟨mv', h3⟩, t3⟩; have hkk := HX.out w3 t3)))
      all_goals
        go_wp2
        go_ret
        obtain ⟨e1, e2, e3, e4⟩ := HEnd.out _ _ h3 t3
        exact ⟨by rw [HFe.out]; rfl, e1, e2, by rw [HFe.out]; exact e3, e4⟩
    · have HFe : Hid (RF = (false, S)) := by show _ = _; rw [HF.out, hs]; rfl
      rw [hs] at c20
      clear hs Hrow HRd
      go_quiet (fail)
      go_wp2
      go_ret
      have hbq := below_drewN (Below.refl Z2.heap.size Z2) nq
      have ts : w.heap.size ≤ Z2.heap.size := HT2.out.size
      have hq := (HS2.out.below hbq).more (Nat.le_succ n)
      refine ⟨by rw [HFe.out]; rfl, HR2.out.below hbq, HP2.out.below hbq, ⟨mv, ?_⟩, HT2.out.trans (below_tr hbq _)⟩
      rw [HFe.out]
      exact hq.wide w.heap.size
end Go.Proofs.YtilkdeghknjjhaaGreatDoor
