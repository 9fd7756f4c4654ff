/- The store: Put. -/
import Derived.Test.YtilkdeghknjjhaaGreatDoorPart43
import Derived.Test.YtilkdeghknjjhaaGreatDoorPart46
namespace Go.Proofs.YtilkdeghknjjhaaGreatDoor
open Go.RowKit M Go.Maps
set_option linter.unusedVariables false

/-- A variable of the frame is written behind a call. -/
theorem StoX.cell {Z Y : Nat → Prop} {w W w1 w2 : World} {s j d : Nat} {mv : Value} {n m : Nat} {D D' : Dk} {J J' : Jn} {S S' : St} (h0 : Sto Z Y w s j d mv n D J S) (h : StoX Z Y W w1 s j d m D' J' S') (hb : Below w.heap.size w W) {g : Nat} (hg : w.heap.size ≤ g) (hgW : g < W.heap.size) (t : Tr (One g) w1 w2) :
    StoX Z Y w w2 s j d m D' J' S' := by
  obtain ⟨⟨Z', Y', mv', h1, h2, h3⟩, t2⟩ := h
  have hjl := h0.jlt
  have h5 := h0.j5
  have hs := hb.size
  refine ⟨⟨Z', Y', mv', h1.tr t (fun i (hi : i = g) => ⟨fun hz => ?_, fun hy => ?_, by omega, by omega⟩), fun k hk => (h2 k hk).imp (fun h => h) (fun h => by omega), fun k hk => (h3 k hk).imp (fun h => h) (fun h => by omega)⟩, ((below_tr hb (Zs Z Y j)).trans t2).trans' t fun i hi (e : i = g) => by omega⟩
  · rcases h2 i hz with h | h
    · have := h0.lz i h; omega
    · omega
  · rcases h3 i hy with h | h
    · have := h0.st.lt i h; omega
    · omega
theorem StoX.ro {Z Y : Nat → Prop} {w w1 : World} {s j d : Nat} {n : Nat} {D : Dk} {J : Jn} {S : St} (hs : s < w.heap.size → Y s) (h : StoX Z Y w w1 s j d n D J S) : StoX Z Y w (w1.setCell ⟨s, 8, none⟩ (.bool true)) s j d n D J { S with ro := true } := by
  obtain ⟨⟨Z', Y', mv', h1, h2, h3⟩, t2⟩ := h
  obtain ⟨h4, t4⟩ := h1.set 8 (.bool true) (h1.st.setS (S' := { S with ro := true }) 8 _ rfl rfl)
  refine ⟨⟨Z', Y', mv', h4, h2, h3⟩, t2.trans' ((Tr.refl (One s) w1).set1 8 _) fun i hi (e : i = s) => ?_⟩
  exact .inr (.inl (e ▸ hs (e ▸ hi)))
theorem StoX.c8 {Z Y : Nat → Prop} {w w1 : World} {s j d : Nat} {n : Nat} {D : Dk} {J : Jn} {S : St} (h : StoX Z Y w w1 s j d n D J S) : w1.cell? ⟨s, 8, none⟩ = some (.bool S.ro) ∧ w1.frozen? ⟨s, 8, none⟩ = false := by
  obtain ⟨⟨Z', Y', mv', h1, h2, h3⟩, t2⟩ := h
  exact ⟨(h1.st.cell 8).trans rfl, h1.st.frozen 8⟩
/-- Behind an answer that the disk has failed nothing is written. -/
def stopF (q : Int × Dk × Jn × St) : Int × Dk × Jn × St := if q.1 = 7 then (q.1, q.2.1, q.2.2.1, { q.2.2.2 with ro := true }) else q
/-- The end of a call: its answer lies in a variable of its own. -/
theorem stop_end {Z Y : Nat → Prop} {w w1 : World} {s j d : Nat} {n : Nat} (q : Int × Dk × Jn × St) (h : StoX Z Y w w1 s j d n q.2.1 q.2.2.1 q.2.2.2) (hs : s < w.heap.size → Y s) (a : Nat) (u : FrameMode) (ha : w1.cell? ⟨a, 0, none⟩ = some (.int .i64 q.1)) (hne : a ≠ s) :
    CallsD Tryz.prog 40 #[.pointer (some ⟨s, 0, none⟩), .pointer (some ⟨a, 0, none⟩)] u w1 fun e u' w' => u' = u ∧ (e = .returned (.tuple #[]) ∧ StoX Z Y w w' s j d n (stopF q).2.1 (stopF q).2.2.1 (stopF q).2.2.2 ∧ w'.cell? ⟨a, 0, none⟩ = some (.int .i64 (stopF q).1)) := by
  refine (stop_any s a q.2.2.2.ro q.1 u w1 h.c8.1 h.c8.2 ha).mono ?_
  rintro e u' w' ⟨hu, he, rfl⟩
  refine ⟨hu, he, ?_, ?_⟩
  · unfold stopF
    split
    · exact h.ro hs
    · exact h
  · have e1 : (stopF q).1 = q.1 := by unfold stopF; split <;> rfl
    rw [e1]
    split
    · rw [World.cell?_setCell_other _ ⟨s, 8, none⟩ ⟨a, 0, none⟩ _ (by simp)]; exact ha
    · exact ha

theorem result_put (tmps : Array Value) (w : World) (g : Nat) (n : Int) (h4 : tmps.getD 8 undef = .pointer (some ⟨g, 0, none⟩)) (hg : w.cell? ⟨g, 0, none⟩ = some (.int .i64 n)) :
    (results Tryz.f25 tmps).run Tryz.prog w = .ok (.int .i64 n) w := by
  have h4' : tmps[8]?.getD undef = .pointer (some ⟨g, 0, none⟩) := by simpa using h4
  simp [results, Tryz.results25, h4', asAddr, go_sem, hg]
/-- What Put does, of a store that is open. -/
noncomputable def putF (D : Dk) (J : Jn) (S : St) (k v c : ByteArray) : Int × Dk × Jn × St := stopF (if (mutF S k v c).2 = 0 then doF D J S (mutF S k v c).1 else ((mutF S k v c).2, D, J, S))
/-- The mutation that is made is one that may be. -/
theorem mutF_ok {S : St} {k v c : ByteArray} (h : (mutF S k v c).2 = 0) : (mutF S k v c).1.k.size ≤ 40 ∧ (mutF S k v c).1.v.size ≤ 200 ∧ (mutF S k v c).1.count = S.cnt + 1 ∧ (mutF S k v c).1.k = k := by
  unfold mutF at h ⊢
  by_cases h1 : keyOK k = false ∨ 200 < v.size
  · rw [if_pos h1] at h; cases h
  · rw [if_neg h1] at h ⊢
    by_cases h2 : decN (bs c) ≠ 0 ∨ covB (decC (bs c)) S.node (S.cnt + 1) = true
    · rw [if_pos h2] at h; cases h
    · rw [if_neg h2] at h ⊢
      by_cases h3 : S.ro = true
      · rw [if_pos h3] at h; cases h
      · rw [if_neg h3]
        refine ⟨?_, by have := fun hh => h1 (.inr hh); simp only; omega, rfl, rfl⟩
        have : keyOK k = true := by cases hk : keyOK k <;> simp_all
        unfold keyOK at this
        simp at this
        simp only
        omega

set_option maxRecDepth 20000 in
set_option maxHeartbeats 3200000 in
theorem sput_any (Z Y : Nat → Prop) (s j d : Nat) (mv : Value) (n : Nat) (D : Dk) (J : Jn) (S : St) (k v c : ByteArray) (w : World) (h : Sto Z Y w s j d mv n D J S) (hwf : D.WF) (hwf2 : ∀ m : Mt, m.k.size ≤ 255 → m.v.size ≤ 255 → (jappend D J (encM m)).2.1.WF) (hbu : D.Bud 5) (hjn : J.num < 900000000) (hjs : J.size ≤ 1000000000) (hjr : J.roll ≤ 1000000000)
    (hk : k.size ≤ 1000000000) (hv : v.size ≤ 1000000000) (hc : c.size ≤ 1000000000) (hn : n < 900000000000) (hc0 : 0 ≤ S.held) (hc1 : S.held ≤ S.cnt) (hc2 : S.cnt ≤ 1000000000000000) (hE : (S.M k).L.length ≤ 6) :
    Calls Tryz.prog 25 #[.pointer (some ⟨s, 0, none⟩), .string k, .string v, .string c] w fun e w' => e = .returned (.int .i64 (putF D J S k v c).1) ∧ StoX Z Y w w' s j d (n + 2) (putF D J S k v c).2.1 (putF D J S k v c).2.2.1 (putF D J S k v c).2.2.2 := by
  obtain ⟨W, hW, HB, HA⟩ : ∃ W, (w.alloc (.cells #[.int .i64 0] 31)) = W ∧ Hid (Below w.heap.size w W) ∧ Hid (W.heap[w.heap.size]? = some (.cells #[.int .i64 0] 31 (0, 0))) :=
    ⟨_, rfl, (Below.refl _ _).alloc (Nat.le_refl _) _, heap_alloc_new w _⟩
  have HW1 : Hid (w.heap.size < W.heap.size) := by show _ < _; rw [← hW]; simp
  have H0 : Hid (Sto Z Y w s j d mv n D J S) := h
  have HM := smut_any Y s _ mv j n S k v c W (h.below HB.out).st hk hv hc (by omega) (by omega)
  obtain ⟨q, hq⟩ : ∃ q, mutF S k v c = q := ⟨_, rfl⟩
  have HP : Hid (putF D J S k v c = stopF (if q.2 = 0 then doF D J S q.1 else (q.2, D, J, S))) := by show _ = _; unfold putF; rw [hq]
  have HOk : Hid (q.2 = 0 → q.1.k.size ≤ 40 ∧ q.1.v.size ≤ 200 ∧ q.1.count = S.cnt + 1 ∧ q.1.k = k) := by rw [← hq]; exact mutF_ok
  obtain ⟨R, hR⟩ : ∃ R, putF D J S k v c = R := ⟨_, rfl⟩
  rw [hR] at HP ⊢
  rw [hq] at HM
  obtain ⟨⟨del, node, count, kk, C, vv⟩, ne⟩ := q
  replace HM : Calls Tryz.prog 49 #[.pointer (some ⟨s, 0, none⟩), .string k, .string v, .string c] W fun e w' => ∃ a l cap, e = .returned (.tuple #[.agg #[.bool del, .int .i64 node, .int .i64 count, .string kk, .slice a l cap, .string vv], .int .i64 ne]) ∧ Rd w' (.slice a l cap) C ∧ InZ (fun k => W.heap.size ≤ k ∧ k < w'.heap.size) (.slice a l cap) ∧ Below W.heap.size W w' := by
    refine HM.mono ?_
    rintro e w1 ⟨vc, rfl, hrd, hz, hb1⟩
    obtain ⟨av, cv, rfl⟩ := hrd.shape
    exact ⟨_, _, _, rfl, hrd, hz, hb1⟩
  clear hq hR h
  go_enter_defers Tryz.func25, Tryz.ntmps25
  go_upto_region 1 with (fail)
  clear hW
  go_wp2_with fail
  refine HM.mono ?_
  rintro e w1 ⟨av, lv, cv, rfl, hrd, hz, hb1⟩
  obtain ⟨W2, hW2, HB2, HM2, HA2⟩ : ∃ W2, w1.alloc (.cells #[.bool del, .int .i64 node, .int .i64 count, .string kk, .slice av lv cv, .string vv] 111) = W2 ∧ Hid (Below W.heap.size W W2) ∧ Hid (W2.heap[w1.heap.size]? = some (.cells #[.bool del, .int .i64 node, .int .i64 count, .string kk, .slice av lv cv, .string vv] 111 (0, 0))) ∧
      Hid (W2.heap[w.heap.size]? = some (.cells #[.int .i64 0] 31 (0, 0))) := ⟨_, rfl, belowA hb1, heap_alloc_new w1 _, heap_later (belowA hb1) HA.out⟩
  have f0 : W2.cell? ⟨w.heap.size, 0, none⟩ = some (.int .i64 0) := by rw [cell_of_row _ _ _ _ _ _ HA2.out]; rfl
  have z0 : W2.frozen? ⟨w.heap.size, 0, none⟩ = false := frozen_of_row _ _ _ _ _ HA2.out
  have HSz : Hid (w.heap.size < W.heap.size ∧ W.heap.size ≤ w1.heap.size ∧ w1.heap.size < W2.heap.size) := ⟨HW1.out, hb1.size, by rw [← hW2]; simp⟩
  obtain ⟨W3, hW3, HB3, HM3, HA3⟩ : ∃ W3, W2.setCell ⟨w.heap.size, 0, none⟩ (.int .i64 ne) = W3 ∧ Hid (Below w.heap.size w W3 ∧ W3.heap.size = W2.heap.size) ∧ Hid (W3.heap[w1.heap.size]? = some (.cells #[.bool del, .int .i64 node, .int .i64 count, .string kk, .slice av lv cv, .string vv] 111 (0, 0))) ∧
      Hid (W3.heap[w.heap.size]? = some (.cells #[.int .i64 ne] 31 (0, 0))) := by
    have h1 := HSz.out
    exact ⟨_, rfl, ⟨(belowN HB.out HB2.out).setCell (Nat.le_refl _) _, by simp [World.setCell]⟩, by rw [Below.heap_setCell _ _ _ _ (fun e : w1.heap.size = w.heap.size => by omega)]; exact HM2.out, by rw [heap_setCell_self HA2.out]; rfl⟩
  have g0 : W3.cell? ⟨w.heap.size, 0, none⟩ = some (.int .i64 ne) := by rw [cell_of_row _ _ _ _ _ _ HA3.out]; rfl
  have g1 : W3.frozen? ⟨w.heap.size, 0, none⟩ = false := frozen_of_row _ _ _ _ _ HA3.out
  have HRd : Hid (Rd W3 (.slice av lv cv) C ∧ InZ (fun k => ¬ Y k ∧ k < W3.heap.size) (.slice av lv cv)) := by
    have h1 := HSz.out
    have h2 := HB3.out.2
    refine ⟨?_, fun i hi => ?_⟩
    · have hb : Below w1.heap.size w1 W2 := by rw [← hW2]; exact belowA (Below.refl _ _)
      rw [← hW3]
      exact (hrd.below hb).tr ((Tr.refl (One w.heap.size) W2).set1 0 _) (fun i hi (e : i = w.heap.size) => by have := hz i hi; omega)
    · have := hz i hi
      exact ⟨fun hy => by have := H0.out.st.lt i hy; omega, by omega⟩
  clear hrd hz hb1 HA2 HM2
  by_cases hne : ne = 0
  · subst hne
    obtain ⟨k1, k2, k3, k4⟩ := HOk.out rfl
    have HF : Hid (R = stopF (doF D J S ⟨del, node, count, kk, C, vv⟩)) := by show _ = _; rw [HP.out, if_pos rfl]
    have hcell : ∀ o, W3.cell? ⟨w1.heap.size, o, none⟩ = #[Value.bool del, .int .i64 node, .int .i64 count, .string kk, .slice av lv cv, .string vv][o]? := fun o => by rw [cell_of_row _ _ _ _ _ _ HM3.out]
    have x0 := (hcell 0).trans (b := some (Value.bool del)) rfl
    have x1 := (hcell 1).trans (b := some (Value.int .i64 node)) rfl
    have x2 := (hcell 2).trans (b := some (Value.int .i64 count)) rfl
    have x3 := (hcell 3).trans (b := some (Value.string kk)) rfl
    have x4 := (hcell 4).trans (b := some (Value.slice av lv cv)) rfl
    have x5 := (hcell 5).trans (b := some (Value.string vv)) rfl
    have HS3 : Hid (Sto Z Y W3 s j d mv n D J S) := H0.out.below HB3.out.1
    have HDo : Hid (Calls Tryz.prog 50 #[.pointer (some ⟨s, 0, none⟩), .agg #[.bool del, .int .i64 node, .int .i64 count, .string kk, .slice av lv cv, .string vv]] W3 fun e w' => e = .returned (.int .i64 (doF D J S ⟨del, node, count, kk, C, vv⟩).1) ∧ StoX Z Y W3 w' s j d (n + 2) (doF D J S ⟨del, node, count, kk, C, vv⟩).2.1 (doF D J S ⟨del, node, count, kk, C, vv⟩).2.2.1 (doF D J S ⟨del, node, count, kk, C, vv⟩).2.2.2) :=
      sdo_any Z Y s j d mv n D J S ⟨del, node, count, kk, C, vv⟩ (.slice av lv cv) W3 HS3.out hwf (hwf2 _ (by simp only at k1 ⊢; omega) (by simp only at k2 ⊢; omega)) hbu hjn hjs hjr HRd.out.1 HRd.out.2 (by simp only at k1 ⊢; omega) (by simp only at k2 ⊢; omega) hn hc0 hc1 k3 hc2 (by simp only at k4 ⊢; rw [k4]; exact hE)
    obtain ⟨Q, hQ⟩ : ∃ Q, doF D J S ⟨del, node, count, kk, C, vv⟩ = Q := ⟨_, rfl⟩
    rw [hQ] at HF HDo
    clear hcell k1 k2 k3 k4 hQ HP HOk
    go_upto_region 5 with (fail)
    clear hW2 hW3 f0 z0
    go_wp2_with fail
    refine HDo.out.mono ?_
    rintro e w5 ⟨rfl, hX5⟩
    have HX5 : Hid (StoX Z Y W3 w5 s j d (n + 2) Q.2.1 Q.2.2.1 Q.2.2.2) := hX5
    have hr5 : w5.heap[w.heap.size]? = some (.cells #[.int .i64 0] 31 (0, 0)) := hX5.2.heap HA3.out (fun hz => by
      rcases hz with hz | hz | hz
      · have := H0.out.lz _ hz; omega
      · have := H0.out.st.lt _ hz; omega
      · have := H0.out.jlt; omega)
    have f5 : w5.cell? ⟨w.heap.size, 0, none⟩ = some (.int .i64 0) := by rw [cell_of_row _ _ _ _ _ _ hr5]; rfl
    have z5 : w5.frozen? ⟨w.heap.size, 0, none⟩ = false := frozen_of_row _ _ _ _ _ hr5
    obtain ⟨W6, hW6, HX6, ha6⟩ : ∃ W6, w5.setCell ⟨w.heap.size, 0, none⟩ (.int .i64 Q.1) = W6 ∧ Hid (StoX Z Y w W6 s j d (n + 2) Q.2.1 Q.2.2.1 Q.2.2.2) ∧ W6.cell? ⟨w.heap.size, 0, none⟩ = some (.int .i64 Q.1) := by
      have h1 := HSz.out
      have h2 := HB3.out.2
      exact ⟨_, rfl, StoX.cell H0.out hX5 HB3.out.1 (Nat.le_refl _) (by omega) ((Tr.refl (One w.heap.size) w5).set1 0 _), World.cell?_setCell_same w5 ⟨w.heap.size, 0, none⟩ _ f5⟩
    clear hX5 hr5
    go_wp2
    refine leaves_cons (f := 40) (args := #[.pointer (some ⟨s, 0, none⟩), .pointer (some ⟨w.heap.size, 0, none⟩)]) (by simp) (by simp [go_sem]) ?_
    refine (stop_end Q HX6.out (fun _ => H0.out.st.ys) w.heap.size .returning ha6 (fun e => by have := H0.out.st.lt _ H0.out.st.ys; omega)).mono ?_
    rintro e u' w'' ⟨rfl, rfl, h8, h9⟩
    exact ⟨_, result_put _ _ w.heap.size _ rfl h9, by rw [HF.out], by rw [HF.out]; exact h8⟩
  · have hneb : (ne != 0) = true := by simp [hne]
    have HF : Hid (R = stopF (ne, D, J, S)) := by show _ = _; rw [HP.out, if_neg hne]
    go_upto_region 3 with (fail)
    clear hW2 hW3 f0 z0
    obtain ⟨W4, hW4, HX4, ha4⟩ : ∃ W4, W3.setCell ⟨w.heap.size, 0, none⟩ (.int .i64 ne) = W4 ∧ Hid (StoX Z Y w W4 s j d (n + 2) D J S) ∧ W4.cell? ⟨w.heap.size, 0, none⟩ = some (.int .i64 ne) := by
      have hb : Below w.heap.size w (W3.setCell ⟨w.heap.size, 0, none⟩ (.int .i64 ne)) := HB3.out.1.setCell (Nat.le_refl _) _
      exact ⟨_, rfl, StoX.refl H0.out hb (by omega), World.cell?_setCell_same W3 ⟨w.heap.size, 0, none⟩ _ g0⟩
    go_wp2
    refine leaves_cons (f := 40) (args := #[.pointer (some ⟨s, 0, none⟩), .pointer (some ⟨w.heap.size, 0, none⟩)]) (by simp) (by simp [go_sem]) ?_
    refine (stop_end (ne, D, J, S) HX4.out (fun _ => H0.out.st.ys) w.heap.size .returning ha4 (fun e => by have := H0.out.st.lt _ H0.out.st.ys; omega)).mono ?_
    rintro e u' w'' ⟨rfl, rfl, h8, h9⟩
    exact ⟨_, result_put _ _ w.heap.size _ rfl h9, by rw [HF.out], by rw [HF.out]; exact h8⟩
end Go.Proofs.YtilkdeghknjjhaaGreatDoor
/- The store: takesAway. -/
namespace Go.Proofs.YtilkdeghknjjhaaGreatDoor
open Go.RowKit M Go.Maps
set_option linter.unusedVariables false

/-- Has a context seen one of the values? -/
noncomputable def anyCov (C : List (Int × Int)) (L : List Sb) : Bool := L.any fun x => covB C x.n x.c

set_option maxRecDepth 20000 in
set_option maxHeartbeats 800000 in
theorem tkPred_any (mb : Nat) (x : Sb) (a : Option Addr) (l c : Nat) (C : List (Int × Int)) (w : World) (h4 : w.cell? ⟨mb, 4, none⟩ = some (.slice a l c)) (hb : mb < w.heap.size) (hrd : Rd w (.slice a l c) C) :
    Calls Tryz.prog 101 #[x.val, .pointer (some ⟨mb, 0, none⟩)] w fun e w' => e = .returned (.bool (covB C x.n x.c)) ∧ Below w.heap.size w w' := by
  obtain ⟨W, hW, HB, HR⟩ : ∃ W, w.alloc (.cells #[.int .i64 x.n, .int .i64 x.c, .string x.v] 122) = W ∧ Hid (Below w.heap.size w W) ∧ Hid (W.heap[w.heap.size]? = some (.cells #[.int .i64 x.n, .int .i64 x.c, .string x.v] 122 (0, 0))) :=
    ⟨_, rfl, belowA (Below.refl _ _), heap_alloc_new w _⟩
  have f4 : W.cell? ⟨mb, 4, none⟩ = some (.slice a l c) := cell_later HB.out h4
  have g0 : W.cell? ⟨w.heap.size, 0, none⟩ = some (.int .i64 x.n) := by rw [cell_of_row _ _ _ _ _ _ HR.out]; rfl
  have g1 : W.cell? ⟨w.heap.size, 1, none⟩ = some (.int .i64 x.c) := by rw [cell_of_row _ _ _ _ _ _ HR.out]; rfl
  have HC := covers_f _ C x.n x.c W (hrd.below HB.out)
  unfold Sb.val
  clear h4 hrd
  go_enter Tryz.func101, Tryz.ntmps101
  go_upto_region 1 with (fail)
  clear hW
  go_wp2_with fail
  refine HC.mono ?_
  rintro e w' ⟨rfl, hb'⟩
  go_wp2
  go_ret
  exact ⟨rfl, belowN HB.out hb'⟩

set_option maxRecDepth 20000 in
set_option maxHeartbeats 800000 in
theorem tkIdx_any (mb : Nat) (L : List Sb) (v : Value) (a : Option Addr) (l c : Nat) (C : List (Int × Int)) (w : World) (h4 : w.cell? ⟨mb, 4, none⟩ = some (.slice a l c)) (hb : mb < w.heap.size) (hrd : Rd w (.slice a l c) C) (hL : RdS w v L) :
    Calls Tryz.prog 165 #[v, .func (.func 101) #[] #[.pointer (some ⟨mb, 0, none⟩)]] w fun e w' => ∃ r : Int, e = .returned (.int .i64 r) ∧ decide (0 ≤ r) = anyCov C L ∧ Below w.heap.size w w' := by
  obtain ⟨p, q, rfl, hq, hq2, hcell⟩ := hL
  have HP : Hid (∀ X (x : Sb), Below w.heap.size w X → Calls Tryz.prog 101 #[.agg #[.int .i64 x.n, .int .i64 x.c, .string x.v], .pointer (some ⟨mb, 0, none⟩)] X fun e w' => e = .returned (.bool (covB C x.n x.c)) ∧ Below X.heap.size X w') := fun X x hX =>
    tkPred_any mb x a l c C X (cell_later hX h4) (Nat.lt_of_lt_of_le hb hX.size) (hrd.below hX)
  have hlb : L.length ≤ 9223372036854775807 := by omega
  have HL : Hid (∀ X k, Below w.heap.size w X → k < L.length → ∃ b off, p = some ⟨b, off, none⟩ ∧ X.cell? ⟨b, off + k * 3, none⟩ = some (.int .i64 (sb L k).n) ∧ X.cell? ⟨b, off + k * 3 + 1, none⟩ = some (.int .i64 (sb L k).c) ∧ X.cell? ⟨b, off + k * 3 + 2, none⟩ = some (.string (sb L k).v)) := fun X k hX hk => by
    obtain ⟨b, off, rfl, hc⟩ := hcell (by omega)
    exact ⟨b, off, rfl, cell_later hX (hc k hk).1, cell_later hX (hc k hk).2.1, cell_later hX (hc k hk).2.2⟩
  clear h4 hrd hcell hb
  go_enter Tryz.func165, Tryz.ntmps165
  go_wp2
  go_loopg [5, 8] L.length (fun gg _ s8 wr => ∃ k : Nat, k ≤ L.length ∧ gg = L.length - k ∧ s8 = .int .i64 k ∧ Hid (anyCov C L = anyCov C (L.drop k)) ∧ Hid (Below w.heap.size w wr))
  case atStart => exact ⟨0, Nat.zero_le _, by omega, rfl, by show anyCov C L = _; rw [List.drop_zero], Below.refl _ w⟩
  case round =>
    obtain ⟨k, hk, rfl, rfl, HA, HB⟩ := hrel
    by_cases hlt : k < L.length
    · have hlt2 : (k : Int) < (L.length : Int) := by omega
      obtain ⟨b, off, rfl, c0, c1, c2⟩ := HL.out wr k HB.out hlt
      have hcall := HP.out wr (sb L k) HB.out
      have HD : Hid (anyCov C (L.drop k) = (covB C (sb L k).n (sb L k).c || anyCov C (L.drop (k + 1)))) := by
        show _ = _
        rw [List.drop_eq_getElem_cons hlt]
        unfold anyCov sb
        rw [List.any_cons, List.getD_eq_getElem?_getD, List.getElem?_eq_getElem hlt]
        rfl
      obtain ⟨x, hx⟩ : ∃ x, sb L k = x := ⟨_, rfl⟩
      rw [hx] at c0 c1 c2 hcall HD
      obtain ⟨r, hr⟩ : ∃ r, covB C x.n x.c = r := ⟨_, rfl⟩
      rw [hr] at hcall HD
      clear hx hr HL HP
      cases r
      · go_wp2_with (go_at_call 101; refine hcall.mono ?_; rintro e w' ⟨rfl, hb'⟩)
        go_roundg (L.length - (k + 1))
        case measure => omega
        case rel => exact ⟨k + 1, by omega, by omega, by go_num, by show anyCov C L = _; rw [HA.out, HD.out]; rfl, belowN HB.out hb'⟩
      · go_wp2_with fail
        refine hcall.mono ?_
        rintro e w' ⟨rfl, hb'⟩
        go_wp2
        go_ret
        exact ⟨k, rfl, by rw [HA.out, HD.out]; simp, belowN HB.out hb'⟩
    · have hlt2 : ¬ (k : Int) < (L.length : Int) := by omega
      have e : k = L.length := by omega
      subst e
      go_wp2
      go_ret
      refine ⟨-1, rfl, ?_, HB.out⟩
      rw [HA.out, List.drop_length]
      rfl
set_option maxRecDepth 20000 in
set_option maxHeartbeats 800000 in
theorem tkHas_any (mb : Nat) (L : List Sb) (v : Value) (a : Option Addr) (l c : Nat) (C : List (Int × Int)) (w : World) (h4 : w.cell? ⟨mb, 4, none⟩ = some (.slice a l c)) (hb : mb < w.heap.size) (hrd : Rd w (.slice a l c) C) (hL : RdS w v L) :
    Calls Tryz.prog 100 #[v, .func (.func 101) #[] #[.pointer (some ⟨mb, 0, none⟩)]] w fun e w' => e = .returned (.bool (anyCov C L)) ∧ Below w.heap.size w w' := by
  have HI := tkIdx_any mb L v a l c C w h4 hb hrd hL
  clear h4 hrd hb
  obtain ⟨p, q, rfl, _⟩ := hL
  go_enter Tryz.func100, Tryz.ntmps100
  go_wp2_with fail
  refine HI.mono ?_
  rintro e w' ⟨r, rfl, hr, hb⟩
  go_wp2
  go_ret
  exact ⟨by rw [← hr]; rfl, hb⟩

set_option maxRecDepth 20000 in
set_option maxHeartbeats 1600000 in
theorem takes_any (Y : Nat → Prop) (s : Nat) (dv jv mv : Value) (n : Nat) (S : St) (m : Mt) (vc : Value) (w : World) (h : StIn Y w s dv jv mv n S) (hrd : Rd w vc m.c) (hk : m.k.size ≤ maxLen) :
    Calls Tryz.prog 57 #[.pointer (some ⟨s, 0, none⟩), mtV m vc] w fun e w' => e = .returned (.bool (anyCov m.c (S.M m.k).L)) ∧ Below w.heap.size w w' := by
  obtain ⟨del, node, count, k, c, v⟩ := m
  simp only at hrd hk ⊢
  obtain ⟨av, lv, cv, rfl⟩ : ∃ a l cap, vc = .slice a l cap := by obtain ⟨a, cap, h, _⟩ := hrd; exact ⟨_, _, _, h⟩
  obtain ⟨W, hW, HB, HM⟩ : ∃ W, (w.alloc (.cells #[.bool del, .int .i64 node, .int .i64 count, .string k, .slice av lv cv, .string v] 111)) = W ∧ Hid (Below w.heap.size w W) ∧
      Hid (W.heap[w.heap.size]? = some (.cells #[.bool del, .int .i64 node, .int .i64 count, .string k, .slice av lv cv, .string v] 111 (0, 0))) := ⟨_, rfl, (Below.refl _ _).alloc (Nat.le_refl _) _, heap_alloc_new w _⟩
  have HW1 : Hid (w.heap.size < W.heap.size) := by show _ < _; rw [← hW]; simp
  obtain ⟨E, hE⟩ : ∃ E, S.M k = E := ⟨_, rfl⟩
  obtain ⟨T, hT, hSet, _⟩ := h.tab.get k
  rw [hE] at hSet ⊢
  obtain ⟨uc, ul, hu, o1, o2, _, _⟩ := hSet.ex
  obtain ⟨a3, q3, rfl⟩ := own_shape o1
  obtain ⟨a4, q4, rfl⟩ := own_shape o2
  have c5 : w.cell? ⟨s, 5, none⟩ = some mv := (h.cell 5).trans rfl
  have HG : Hid (∀ X, Below W.heap.size W X → Calls Tryz.prog 55 #[.pointer (some ⟨s, 5, none⟩), .string k] X fun e w' => (∃ b, e = .returned (.tuple #[.agg #[.slice a3 E.C.length q3, .slice a4 E.L.length q4], .bool b])) ∧ Below X.heap.size X w') := fun X hX => by
    have hb := belowN HB.out hX
    have := tGet_any s 5 mv n T k X (cell_later hb c5) (hT.below hb) hk
    rw [hu] at this
    exact this.mono fun e w' ⟨he, hb⟩ => ⟨⟨_, he⟩, hb⟩
  have hB0 : Below W.heap.size W W := Below.refl _ _
  have HCx : Hid (∀ X, Below W.heap.size W X → X.cell? ⟨w.heap.size, 3, none⟩ = some (.string k) ∧ X.cell? ⟨w.heap.size, 4, none⟩ = some (.slice av lv cv)) := fun X hX => by
    have hcell : ∀ o, X.cell? ⟨w.heap.size, o, none⟩ = #[Value.bool del, .int .i64 node, .int .i64 count, .string k, .slice av lv cv, .string v][o]? := fun o => by rw [cell_of_row _ _ _ _ _ _ (heap_later hX HM.out)]
    exact ⟨(hcell 3).trans rfl, (hcell 4).trans rfl⟩
  have HH : Hid (∀ X, Below W.heap.size W X → Calls Tryz.prog 100 #[.slice a4 E.L.length q4, .func (.func 101) #[] #[.pointer (some ⟨w.heap.size, 0, none⟩)]] X fun e w' => e = .returned (.bool (anyCov c E.L)) ∧ Below X.heap.size X w') := fun X hX =>
    tkHas_any w.heap.size E.L _ av lv cv c X (HCx.out X hX).2 (Nat.lt_of_lt_of_le HW1.out hX.size) ((hrd.below HB.out).below hX) ((RdS.own o2 rfl).below (belowN HB.out hX))
  obtain ⟨x3, x4⟩ := HCx.out W hB0
  have hmf : ∀ (fn : Fn) (first cap : Array Value) (w : World), (Instr.makeFunc fn first cap).run Tryz.prog w = .ok (.func fn first cap) w := fun _ _ _ _ => rfl
  clear hT hSet hu o1 o2 c5 h hrd hE
  unfold mtV
  simp only
  go_enter Tryz.func57, Tryz.ntmps57
  go_upto_region 1 with (fail)
  clear hW
  go_cut [5] from 5 to 15 (fun v8 wx => ∃ g, v8 = .pointer (some ⟨g, 0, none⟩) ∧ wx.heap[g]? = some (.cells #[.slice a3 E.C.length q3, .slice a4 E.L.length q4] 117 (0, 0)) ∧ Below W.heap.size W wx)
  case first =>
    go_region_held3 (fun w' => w'.cell? ⟨w.heap.size, 3, none⟩ = some (.string k))
      (first | exact (HCx.out _ (by repeat (first | assumption | exact Below.refl _ _ | refine Below.drew ?_ | refine belowA ?_ | refine Below.setCell ?_ (by exact Nat.le_refl _) _))).1)
      (first
        | ((go_at_call 55; refine (HG.out _ (by repeat (first | assumption | exact Below.refl _ _ | refine Below.drew ?_ | refine belowA ?_))).mono ?_; rintro e w5 ⟨⟨b, rfl⟩, hb5⟩; have hb6 := belowN (a := W) (by repeat (first | assumption | exact Below.refl _ _ | refine Below.drew ?_ | refine belowA ?_)) hb5; have zz := (HCx.out w5 hb6).1; (first | (have r1 := rowD hb5; have r2 := row_c0 r1; have r3 := row_c1 r1; have r4 := row_fz r1) | skip))))
    · go_wp2_with fail
      go_meet
      exact ⟨w5.heap.size, rfl, heap_alloc_new w5 _, belowA hb6⟩
    · go_wp2_with fail
      go_meet
      exact ⟨W.heap.size, rfl, by rw [heap_setCell_self (heap_setCell_self r1 0 _) 1 _]; rfl, (hb6.setCell (Nat.le_refl _) _).setCell (Nat.le_refl _) _⟩
  case rest =>
    obtain ⟨g, rfl, hg, hbx⟩ := hcut
    have g1 := row_c1 hg
    have HHq := HH.out wc hbx
    have HBq : Hid (Below w.heap.size w wc) := belowN HB.out hbx
    clear hg hbx HH HCx HG HM x3 x4 hB0
    go_wp2_with (first | exact hmf)
    refine HHq.mono ?_
    rintro e w' ⟨rfl, hb⟩
    go_wp2
    go_ret
    exact ⟨rfl, belowN HBq.out hb⟩
end Go.Proofs.YtilkdeghknjjhaaGreatDoor
/- The store: Delete. -/
namespace Go.Proofs.YtilkdeghknjjhaaGreatDoor
open Go.RowKit M Go.Maps
set_option linter.unusedVariables false

/-- What Delete does, of a store that is open. -/
noncomputable def delF (D : Dk) (J : Jn) (S : St) (k c : ByteArray) : Int × Dk × Jn × St :=
  stopF (if (mutF S k ⟨#[]⟩ c).2 = 0 then (if anyCov (mutF S k ⟨#[]⟩ c).1.c (S.M (mutF S k ⟨#[]⟩ c).1.k).L = true then doF D J S { (mutF S k ⟨#[]⟩ c).1 with del := true } else (0, D, J, S)) else ((mutF S k ⟨#[]⟩ c).2, D, J, S))
theorem result_del (tmps : Array Value) (w : World) (g : Nat) (n : Int) (h4 : tmps.getD 6 undef = .pointer (some ⟨g, 0, none⟩)) (hg : w.cell? ⟨g, 0, none⟩ = some (.int .i64 n)) :
    (results Tryz.f31 tmps).run Tryz.prog w = .ok (.int .i64 n) w := by
  have h4' : tmps[6]?.getD undef = .pointer (some ⟨g, 0, none⟩) := by simpa using h4
  simp [results, Tryz.results31, h4', asAddr, go_sem, hg]

set_option maxRecDepth 20000 in
set_option maxHeartbeats 3200000 in
theorem sdel_any (Z Y : Nat → Prop) (s j d : Nat) (mv : Value) (n : Nat) (D : Dk) (J : Jn) (S : St) (k c : ByteArray) (w : World) (h : Sto Z Y w s j d mv n D J S) (hwf : D.WF) (hwf2 : ∀ m : Mt, m.k.size ≤ 255 → m.v.size ≤ 255 → (jappend D J (encM m)).2.1.WF) (hbu : D.Bud 5) (hjn : J.num < 900000000) (hjs : J.size ≤ 1000000000) (hjr : J.roll ≤ 1000000000)
    (hk : k.size ≤ 1000000000) (hc : c.size ≤ 1000000000) (hn : n < 900000000000) (hc0 : 0 ≤ S.held) (hc1 : S.held ≤ S.cnt) (hc2 : S.cnt ≤ 1000000000000000) (hE : (S.M k).L.length ≤ 6) :
    Calls Tryz.prog 31 #[.pointer (some ⟨s, 0, none⟩), .string k, .string c] w fun e w' => e = .returned (.int .i64 (delF D J S k c).1) ∧ StoX Z Y w w' s j d (n + 2) (delF D J S k c).2.1 (delF D J S k c).2.2.1 (delF D J S k c).2.2.2 := by
  obtain ⟨W, hW, HB, HA⟩ : ∃ W, (w.alloc (.cells #[.int .i64 0] 31)) = W ∧ Hid (Below w.heap.size w W) ∧ Hid (W.heap[w.heap.size]? = some (.cells #[.int .i64 0] 31 (0, 0))) :=
    ⟨_, rfl, (Below.refl _ _).alloc (Nat.le_refl _) _, heap_alloc_new w _⟩
  have HW1 : Hid (w.heap.size < W.heap.size) := by show _ < _; rw [← hW]; simp
  have H0 : Hid (Sto Z Y w s j d mv n D J S) := h
  have HM := smut_any Y s _ mv j n S k ⟨#[]⟩ c W (h.below HB.out).st hk (by simp [ByteArray.size]) hc (by omega) (by omega)
  obtain ⟨q, hq⟩ : ∃ q, mutF S k ⟨#[]⟩ c = q := ⟨_, rfl⟩
  have HP : Hid (delF D J S k c = stopF (if q.2 = 0 then (if anyCov q.1.c (S.M q.1.k).L = true then doF D J S { q.1 with del := true } else (0, D, J, S)) else (q.2, D, J, S))) := by show _ = _; unfold delF; rw [hq]
  have HOk : Hid (q.2 = 0 → q.1.k.size ≤ 40 ∧ q.1.v.size ≤ 200 ∧ q.1.count = S.cnt + 1 ∧ q.1.k = k) := by rw [← hq]; exact mutF_ok
  obtain ⟨R, hR⟩ : ∃ R, delF D J S k c = R := ⟨_, rfl⟩
  rw [hR] at HP ⊢
  rw [hq] at HM
  obtain ⟨⟨del, node, count, kk, C, vv⟩, ne⟩ := q
  replace HM : Calls Tryz.prog 49 #[.pointer (some ⟨s, 0, none⟩), .string k, .string ⟨#[]⟩, .string c] W fun e w' => ∃ a l cap, e = .returned (.tuple #[.agg #[.bool del, .int .i64 node, .int .i64 count, .string kk, .slice a l cap, .string vv], .int .i64 ne]) ∧ Rd w' (.slice a l cap) C ∧ InZ (fun k => W.heap.size ≤ k ∧ k < w'.heap.size) (.slice a l cap) ∧ Below W.heap.size W w' := by
    refine HM.mono ?_
    rintro e w1 ⟨vc, rfl, hrd, hz, hb1⟩
    obtain ⟨av, cv, rfl⟩ := hrd.shape
    exact ⟨_, _, _, rfl, hrd, hz, hb1⟩
  clear hq hR h
  go_enter_defers Tryz.func31, Tryz.ntmps31
  go_upto_region 1 with (fail)
  clear hW
  go_wp2_with fail
  refine HM.mono ?_
  rintro e w1 ⟨av, lv, cv, rfl, hrd, hz, hb1⟩
  obtain ⟨W2, hW2, HB2, HM2, HA2⟩ : ∃ W2, w1.alloc (.cells #[.bool del, .int .i64 node, .int .i64 count, .string kk, .slice av lv cv, .string vv] 111) = W2 ∧ Hid (Below W.heap.size W W2) ∧ Hid (W2.heap[w1.heap.size]? = some (.cells #[.bool del, .int .i64 node, .int .i64 count, .string kk, .slice av lv cv, .string vv] 111 (0, 0))) ∧
      Hid (W2.heap[w.heap.size]? = some (.cells #[.int .i64 0] 31 (0, 0))) := ⟨_, rfl, belowA hb1, heap_alloc_new w1 _, heap_later (belowA hb1) HA.out⟩
  have f0 : W2.cell? ⟨w.heap.size, 0, none⟩ = some (.int .i64 0) := by rw [cell_of_row _ _ _ _ _ _ HA2.out]; rfl
  have z0 : W2.frozen? ⟨w.heap.size, 0, none⟩ = false := frozen_of_row _ _ _ _ _ HA2.out
  have HSz : Hid (w.heap.size < W.heap.size ∧ W.heap.size ≤ w1.heap.size ∧ w1.heap.size < W2.heap.size) := ⟨HW1.out, hb1.size, by rw [← hW2]; simp⟩
  obtain ⟨W3, hW3, HB3, HM3, HA3⟩ : ∃ W3, W2.setCell ⟨w.heap.size, 0, none⟩ (.int .i64 ne) = W3 ∧ Hid (Below w.heap.size w W3 ∧ W3.heap.size = W2.heap.size) ∧ Hid (W3.heap[w1.heap.size]? = some (.cells #[.bool del, .int .i64 node, .int .i64 count, .string kk, .slice av lv cv, .string vv] 111 (0, 0))) ∧
      Hid (W3.heap[w.heap.size]? = some (.cells #[.int .i64 ne] 31 (0, 0))) := by
    have h1 := HSz.out
    exact ⟨_, rfl, ⟨(belowN HB.out HB2.out).setCell (Nat.le_refl _) _, by simp [World.setCell]⟩, by rw [Below.heap_setCell _ _ _ _ (fun e : w1.heap.size = w.heap.size => by omega)]; exact HM2.out, by rw [heap_setCell_self HA2.out]; rfl⟩
  have g0 : W3.cell? ⟨w.heap.size, 0, none⟩ = some (.int .i64 ne) := by rw [cell_of_row _ _ _ _ _ _ HA3.out]; rfl
  have g1 : W3.frozen? ⟨w.heap.size, 0, none⟩ = false := frozen_of_row _ _ _ _ _ HA3.out
  have HRd : Hid (Rd W3 (.slice av lv cv) C ∧ InZ (fun k => ¬ Y k ∧ k < W3.heap.size) (.slice av lv cv)) := by
    have h1 := HSz.out
    have h2 := HB3.out.2
    refine ⟨?_, fun i hi => ?_⟩
    · have hb : Below w1.heap.size w1 W2 := by rw [← hW2]; exact belowA (Below.refl _ _)
      rw [← hW3]
      exact (hrd.below hb).tr ((Tr.refl (One w.heap.size) W2).set1 0 _) (fun i hi (e : i = w.heap.size) => by have := hz i hi; omega)
    · have := hz i hi
      exact ⟨fun hy => by have := H0.out.st.lt i hy; omega, by omega⟩
  have HZi : Hid (InZ (fun k => W.heap.size ≤ k ∧ k < w1.heap.size) (.slice av lv cv)) := hz
  clear hrd hz hb1 HA2 HM2
  by_cases hne : ne = 0
  · subst hne
    obtain ⟨k1, k2, k3, k4⟩ := HOk.out rfl
    have HF0 : Hid (R = stopF (if anyCov C (S.M kk).L = true then doF D J S ⟨true, node, count, kk, C, vv⟩ else (0, D, J, S))) := by show _ = _; rw [HP.out, if_pos rfl]
    have p0 : W3.cell? ⟨w1.heap.size, 0, none⟩ = some (.bool del) := by rw [cell_of_row _ _ _ _ _ _ HM3.out]; rfl
    have pz : W3.frozen? ⟨w1.heap.size, 0, none⟩ = false := frozen_of_row _ _ _ _ _ HM3.out
    obtain ⟨W4, hW4, HB4, HM4, HA4, HRd4⟩ : ∃ W4, W3.setCell ⟨w1.heap.size, 0, none⟩ (.bool true) = W4 ∧ Hid (Below w.heap.size w W4 ∧ W4.heap.size = W3.heap.size) ∧ Hid (W4.heap[w1.heap.size]? = some (.cells #[.bool true, .int .i64 node, .int .i64 count, .string kk, .slice av lv cv, .string vv] 111 (0, 0))) ∧
        Hid (W4.heap[w.heap.size]? = some (.cells #[.int .i64 0] 31 (0, 0))) ∧ Hid (Rd W4 (.slice av lv cv) C ∧ InZ (fun k => ¬ Y k ∧ k < W4.heap.size) (.slice av lv cv)) := by
      have h1 := HSz.out
      have h2 := HB3.out.2
      have h3 : (W3.setCell ⟨w1.heap.size, 0, none⟩ (.bool true)).heap.size = W3.heap.size := by simp [World.setCell]
      refine ⟨_, rfl, ⟨HB3.out.1.setCell (by show w.heap.size ≤ w1.heap.size; omega) _, h3⟩, by rw [heap_setCell_self HM3.out]; rfl, by rw [Below.heap_setCell _ _ _ _ (fun e : w.heap.size = w1.heap.size => by omega)]; exact HA3.out, HRd.out.1.tr ((Tr.refl (One w1.heap.size) W3).set1 0 _) (fun i hi (e : i = w1.heap.size) => by have := HZi.out i hi; omega), fun i hi => ?_⟩
      rw [h3]
      exact HRd.out.2 i hi
    have hcell : ∀ o, W4.cell? ⟨w1.heap.size, o, none⟩ = #[Value.bool true, .int .i64 node, .int .i64 count, .string kk, .slice av lv cv, .string vv][o]? := fun o => by rw [cell_of_row _ _ _ _ _ _ HM4.out]
    have x0 := (hcell 0).trans (b := some (Value.bool true)) rfl
    have x1 := (hcell 1).trans (b := some (Value.int .i64 node)) rfl
    have x2 := (hcell 2).trans (b := some (Value.int .i64 count)) rfl
    have x3 := (hcell 3).trans (b := some (Value.string kk)) rfl
    have x4 := (hcell 4).trans (b := some (Value.slice av lv cv)) rfl
    have x5 := (hcell 5).trans (b := some (Value.string vv)) rfl
    have HS3 : Hid (Sto Z Y W4 s j d mv n D J S) := H0.out.below HB4.out.1
    have HTk : Hid (Calls Tryz.prog 57 #[.pointer (some ⟨s, 0, none⟩), .agg #[.bool true, .int .i64 node, .int .i64 count, .string kk, .slice av lv cv, .string vv]] W4 fun e w' => e = .returned (.bool (anyCov C (S.M kk).L)) ∧ Below W4.heap.size W4 w') :=
      takes_any Y s _ _ mv n S ⟨true, node, count, kk, C, vv⟩ (.slice av lv cv) W4 HS3.out.st HRd4.out.1 (by simp only at k1 ⊢; unfold maxLen; omega)
    have HDo : Hid (∀ X, Below W4.heap.size W4 X → Calls Tryz.prog 50 #[.pointer (some ⟨s, 0, none⟩), .agg #[.bool true, .int .i64 node, .int .i64 count, .string kk, .slice av lv cv, .string vv]] X fun e w' => e = .returned (.int .i64 (doF D J S ⟨true, node, count, kk, C, vv⟩).1) ∧ StoX Z Y X w' s j d (n + 2) (doF D J S ⟨true, node, count, kk, C, vv⟩).2.1 (doF D J S ⟨true, node, count, kk, C, vv⟩).2.2.1 (doF D J S ⟨true, node, count, kk, C, vv⟩).2.2.2) := fun X hX =>
      sdo_any Z Y s j d mv n D J S ⟨true, node, count, kk, C, vv⟩ (.slice av lv cv) X (HS3.out.below hX) hwf (hwf2 _ (by simp only at k1 ⊢; omega) (by simp only at k2 ⊢; omega)) hbu hjn hjs hjr (HRd4.out.1.below hX) (fun i hi => ⟨(HRd4.out.2 i hi).1, Nat.lt_of_lt_of_le (HRd4.out.2 i hi).2 hX.size⟩) (by simp only at k1 ⊢; omega) (by simp only at k2 ⊢; omega) hn hc0 hc1 k3 hc2 (by simp only at k4 ⊢; rw [k4]; exact hE)
    obtain ⟨Q, hQ⟩ : ∃ Q, doF D J S ⟨true, node, count, kk, C, vv⟩ = Q := ⟨_, rfl⟩
    obtain ⟨tk, htk⟩ : ∃ tk, anyCov C (S.M kk).L = tk := ⟨_, rfl⟩
    rw [hQ, htk] at HF0
    rw [hQ] at HDo
    rw [htk] at HTk
    have HSx : Hid (w.heap.size < W4.heap.size) := by have := HSz.out; have := HB3.out.2; have := HB4.out.2; show _ < _; omega
    clear hcell k1 k2 k3 k4 hQ HP HOk htk
    go_upto_region 5 with (fail)
    clear hW2 hW3 f0 z0
    go_wp2_with fail
    refine HTk.out.mono ?_
    rintro e w5 ⟨rfl, hb5⟩
    have HA5 : Hid (w5.heap[w.heap.size]? = some (.cells #[.int .i64 0] 31 (0, 0))) := heap_later hb5 HA4.out
    have y0 := cell_later hb5 x0
    have y1 := cell_later hb5 x1
    have y2 := cell_later hb5 x2
    have y3 := cell_later hb5 x3
    have y4 := cell_later hb5 x4
    have y5 := cell_later hb5 x5
    have HB5 : Hid (Below w.heap.size w w5) := belowN HB4.out.1 hb5
    have HSy : Hid (w.heap.size < w5.heap.size) := Nat.lt_of_lt_of_le HSx.out hb5.size
    have g5 : w5.cell? ⟨w.heap.size, 0, none⟩ = some (.int .i64 0) := by rw [cell_of_row _ _ _ _ _ _ HA5.out]; rfl
    have z5 : w5.frozen? ⟨w.heap.size, 0, none⟩ = false := frozen_of_row _ _ _ _ _ HA5.out
    clear hW4 p0 pz x0 x1 x2 x3 x4 x5 g0 g1
    cases tk
    · have HF : Hid (R = stopF (0, D, J, S)) := HF0
      obtain ⟨W6, hW6, HX6, ha6⟩ : ∃ W6, w5.setCell ⟨w.heap.size, 0, none⟩ (.int .i64 0) = W6 ∧ Hid (StoX Z Y w W6 s j d (n + 2) D J S) ∧ W6.cell? ⟨w.heap.size, 0, none⟩ = some (.int .i64 0) :=
        ⟨_, rfl, StoX.refl H0.out (HB5.out.setCell (Nat.le_refl _) _) (by omega), World.cell?_setCell_same w5 ⟨w.heap.size, 0, none⟩ _ g5⟩
      clear HDo hb5
      go_wp2
      refine leaves_cons (f := 40) (args := #[.pointer (some ⟨s, 0, none⟩), .pointer (some ⟨w.heap.size, 0, none⟩)]) (by simp) (by simp [go_sem]) ?_
      refine (stop_end (0, D, J, S) HX6.out (fun _ => H0.out.st.ys) w.heap.size .returning ha6 (fun e => by have := H0.out.st.lt _ H0.out.st.ys; omega)).mono ?_
      rintro e u' w'' ⟨rfl, rfl, h8, h9⟩
      exact ⟨_, result_del _ _ w.heap.size _ rfl h9, by rw [HF.out], by rw [HF.out]; exact h8⟩
    · have HF : Hid (R = stopF Q) := HF0
      have HDq := HDo.out w5 hb5
      clear hb5 HDo
      go_wp2_with fail
      refine HDq.mono ?_
      rintro e w7 ⟨rfl, hX7⟩
      have hr7 : w7.heap[w.heap.size]? = some (.cells #[.int .i64 0] 31 (0, 0)) := hX7.2.heap HA5.out (fun hz => by
        rcases hz with hz | hz | hz
        · have := H0.out.lz _ hz; omega
        · have := H0.out.st.lt _ hz; omega
        · have := H0.out.jlt; omega)
      have f7 : w7.cell? ⟨w.heap.size, 0, none⟩ = some (.int .i64 0) := by rw [cell_of_row _ _ _ _ _ _ hr7]; rfl
      have z7 : w7.frozen? ⟨w.heap.size, 0, none⟩ = false := frozen_of_row _ _ _ _ _ hr7
      obtain ⟨W6, hW6, HX6, ha6⟩ : ∃ W6, w7.setCell ⟨w.heap.size, 0, none⟩ (.int .i64 Q.1) = W6 ∧ Hid (StoX Z Y w W6 s j d (n + 2) Q.2.1 Q.2.2.1 Q.2.2.2) ∧ W6.cell? ⟨w.heap.size, 0, none⟩ = some (.int .i64 Q.1) :=
        ⟨_, rfl, StoX.cell H0.out hX7 HB5.out (Nat.le_refl _) HSy.out ((Tr.refl (One w.heap.size) w7).set1 0 _), World.cell?_setCell_same w7 ⟨w.heap.size, 0, none⟩ _ f7⟩
      clear hX7 hr7
      go_wp2
      refine leaves_cons (f := 40) (args := #[.pointer (some ⟨s, 0, none⟩), .pointer (some ⟨w.heap.size, 0, none⟩)]) (by simp) (by simp [go_sem]) ?_
      refine (stop_end Q HX6.out (fun _ => H0.out.st.ys) w.heap.size .returning ha6 (fun e => by have := H0.out.st.lt _ H0.out.st.ys; omega)).mono ?_
      rintro e u' w'' ⟨rfl, rfl, h8, h9⟩
      exact ⟨_, result_del _ _ w.heap.size _ rfl h9, by rw [HF.out], by rw [HF.out]; exact h8⟩
  · have hneb : (ne != 0) = true := by simp [hne]
    have HF : Hid (R = stopF (ne, D, J, S)) := by show _ = _; rw [HP.out, if_neg hne]
    go_upto_region 3 with (fail)
    clear hW2 hW3 f0 z0
    obtain ⟨W4, hW4, HX4, ha4⟩ : ∃ W4, W3.setCell ⟨w.heap.size, 0, none⟩ (.int .i64 ne) = W4 ∧ Hid (StoX Z Y w W4 s j d (n + 2) D J S) ∧ W4.cell? ⟨w.heap.size, 0, none⟩ = some (.int .i64 ne) := by
      have hb : Below w.heap.size w (W3.setCell ⟨w.heap.size, 0, none⟩ (.int .i64 ne)) := HB3.out.1.setCell (Nat.le_refl _) _
      exact ⟨_, rfl, StoX.refl H0.out hb (by omega), World.cell?_setCell_same W3 ⟨w.heap.size, 0, none⟩ _ g0⟩
    go_wp2
    refine leaves_cons (f := 40) (args := #[.pointer (some ⟨s, 0, none⟩), .pointer (some ⟨w.heap.size, 0, none⟩)]) (by simp) (by simp [go_sem]) ?_
    refine (stop_end (ne, D, J, S) HX4.out (fun _ => H0.out.st.ys) w.heap.size .returning ha4 (fun e => by have := H0.out.st.lt _ H0.out.st.ys; omega)).mono ?_
    rintro e u' w'' ⟨rfl, rfl, h8, h9⟩
    exact ⟨_, result_del _ _ w.heap.size _ rfl h9, by rw [HF.out], by rw [HF.out]; exact h8⟩
end Go.Proofs.YtilkdeghknjjhaaGreatDoor
/- The store: Sync, Counter, Keys, Close. -/
namespace Go.Proofs.YtilkdeghknjjhaaGreatDoor
open Go.RowKit M Go.Maps
set_option linter.unusedVariables false

/-- What Sync does, of a store that is open. -/
noncomputable def syncF (D : Dk) (J : Jn) (S : St) : Int × Dk × Jn × St :=
  stopF (if S.ro = true then (4, D, J, S) else if (holdF D J S).1 = true then (0, (holdF D J S).2.1, J, (holdF D J S).2.2) else (7, (holdF D J S).2.1, J, (holdF D J S).2.2))
theorem result_sync (tmps : Array Value) (w : World) (g : Nat) (n : Int) (h4 : tmps.getD 2 undef = .pointer (some ⟨g, 0, none⟩)) (hg : w.cell? ⟨g, 0, none⟩ = some (.int .i64 n)) :
    (results Tryz.f15 tmps).run Tryz.prog w = .ok (.int .i64 n) w := by
  have h4' : tmps[2]?.getD undef = .pointer (some ⟨g, 0, none⟩) := by simpa using h4
  simp [results, Tryz.results15, h4', asAddr, go_sem, hg]

set_option maxRecDepth 20000 in
set_option maxHeartbeats 1600000 in
theorem ssync_any (Z Y : Nat → Prop) (s j d : Nat) (mv : Value) (n : Nat) (D : Dk) (J : Jn) (S : St) (w : World) (h : Sto Z Y w s j d mv n D J S) (hwf : D.WF) (hbu : D.Bud 2) (hjn : J.num < 900000000) :
    Calls Tryz.prog 15 #[.pointer (some ⟨s, 0, none⟩)] w fun e w' => e = .returned (.int .i64 (syncF D J S).1) ∧ StoX Z Y w w' s j d n (syncF D J S).2.1 (syncF D J S).2.2.1 (syncF D J S).2.2.2 := by
  obtain ⟨W, hW, HB, HA⟩ : ∃ W, (w.alloc (.cells #[.int .i64 0] 31)) = W ∧ Hid (Below w.heap.size w W) ∧ Hid (W.heap[w.heap.size]? = some (.cells #[.int .i64 0] 31 (0, 0))) :=
    ⟨_, rfl, (Below.refl _ _).alloc (Nat.le_refl _) _, heap_alloc_new w _⟩
  have HW1 : Hid (w.heap.size < W.heap.size) := by show _ < _; rw [← hW]; simp
  have H0 : Hid (Sto Z Y w s j d mv n D J S) := h
  have HS : Hid (Sto Z Y W s j d mv n D J S) := h.below HB.out
  have HCl : Hid (Calls Tryz.prog 39 #[.pointer (some ⟨s, 0, none⟩)] W fun e w' => e = .returned (.bool false) ∧ w' = W) := closed_no Y s j _ mv n S W HS.out.st
  have HH : Hid (Calls Tryz.prog 41 #[.pointer (some ⟨s, 0, none⟩)] W fun e w' => e = .returned (.bool (holdF D J S).1) ∧ StoE Z Y W w' s j d mv n (holdF D J S).2.1 J (holdF D J S).2.2) := hold_any Z Y s j d mv n D J S W HS.out hwf hbu (by omega)
  have HP : Hid (syncF D J S = stopF (if S.ro = true then (4, D, J, S) else if (holdF D J S).1 = true then (0, (holdF D J S).2.1, J, (holdF D J S).2.2) else (7, (holdF D J S).2.1, J, (holdF D J S).2.2))) := rfl
  obtain ⟨R, hR⟩ : ∃ R, syncF D J S = R := ⟨_, rfl⟩
  rw [hR] at HP ⊢
  obtain ⟨⟨b, D1, S1⟩, hq⟩ : ∃ q, holdF D J S = q := ⟨_, rfl⟩
  rw [hq] at HP HH
  simp only at HP HH
  have c8 : W.cell? ⟨s, 8, none⟩ = some (.bool S.ro) := (HS.out.st.cell 8).trans rfl
  have f0 : W.cell? ⟨w.heap.size, 0, none⟩ = some (.int .i64 0) := by rw [cell_of_row _ _ _ _ _ _ HA.out]; rfl
  have z0 : W.frozen? ⟨w.heap.size, 0, none⟩ = false := frozen_of_row _ _ _ _ _ HA.out
  have HEnd : Hid (∀ X m D' J' S', StoX Z Y W X s j d n D' J' S' → X.cell? ⟨w.heap.size, 0, none⟩ = some (.int .i64 0) → StoX Z Y w (X.setCell ⟨w.heap.size, 0, none⟩ (.int .i64 m)) s j d n D' J' S' ∧ (X.setCell ⟨w.heap.size, 0, none⟩ (.int .i64 m)).cell? ⟨w.heap.size, 0, none⟩ = some (.int .i64 m)) := fun X m D' J' S' hX hc =>
    ⟨StoX.cell H0.out hX HB.out (Nat.le_refl _) HW1.out ((Tr.refl (One w.heap.size) X).set1 0 _), World.cell?_setCell_same X ⟨w.heap.size, 0, none⟩ _ hc⟩
  have HFar : Hid (∀ X D' J' S', StoX Z Y W X s j d n D' J' S' → X.cell? ⟨w.heap.size, 0, none⟩ = some (.int .i64 0) ∧ X.frozen? ⟨w.heap.size, 0, none⟩ = false) := fun X D' J' S' hX => by
    have hr := hX.2.heap HA.out (fun hz => by
      rcases hz with hz | hz | hz
      · have := H0.out.lz _ hz; omega
      · have := H0.out.st.lt _ hz; omega
      · have := H0.out.jlt; omega)
    exact ⟨by rw [cell_of_row _ _ _ _ _ _ hr]; rfl, frozen_of_row _ _ _ _ _ hr⟩
  have HNe : Hid (w.heap.size ≠ s) := fun e => by have := H0.out.st.lt _ H0.out.st.ys; omega
  clear h hq hR hwf hbu
  go_enter_defers Tryz.func15, Tryz.ntmps15
  go_upto_region 1 with (fail)
  clear hW
  go_wp2_with fail
  refine HCl.out.mono ?_
  rintro e w1 ⟨rfl, rfl⟩
  cases hro : S.ro
  · rw [hro] at c8
    go_wp2_with fail
    refine HH.out.mono ?_
    rintro e w2 ⟨rfl, hX⟩
    have HX := hX.x
    obtain ⟨f2, z2⟩ := HFar.out w2 _ _ _ HX
    cases b
    · have HF : Hid (R = stopF (7, D1, J, S1)) := by show _ = _; rw [HP.out, if_neg (by rw [hro]; simp), if_neg (by simp)]
      obtain ⟨W4, hW4, HX4, ha4⟩ : ∃ W4, w2.setCell ⟨w.heap.size, 0, none⟩ (.int .i64 7) = W4 ∧ Hid (StoX Z Y w W4 s j d n D1 J S1) ∧ W4.cell? ⟨w.heap.size, 0, none⟩ = some (.int .i64 7) := ⟨_, rfl, (HEnd.out w2 7 _ _ _ HX f2).1, (HEnd.out w2 7 _ _ _ HX f2).2⟩
      clear hX HX HP
      go_wp2
      refine leaves_cons (f := 40) (args := #[.pointer (some ⟨s, 0, none⟩), .pointer (some ⟨w.heap.size, 0, none⟩)]) (by simp) (by simp [go_sem]) ?_
      refine (stop_end (7, D1, J, S1) HX4.out (fun _ => H0.out.st.ys) w.heap.size .returning ha4 HNe.out).mono ?_
      rintro e u' w'' ⟨rfl, rfl, h8, h9⟩
      exact ⟨_, result_sync _ _ w.heap.size _ rfl h9, by rw [HF.out], by rw [HF.out]; exact h8⟩
    · have HF : Hid (R = stopF (0, D1, J, S1)) := by show _ = _; rw [HP.out, if_neg (by rw [hro]; simp), if_pos rfl]
      obtain ⟨W4, hW4, HX4, ha4⟩ : ∃ W4, w2.setCell ⟨w.heap.size, 0, none⟩ (.int .i64 0) = W4 ∧ Hid (StoX Z Y w W4 s j d n D1 J S1) ∧ W4.cell? ⟨w.heap.size, 0, none⟩ = some (.int .i64 0) := ⟨_, rfl, (HEnd.out w2 0 _ _ _ HX f2).1, (HEnd.out w2 0 _ _ _ HX f2).2⟩
      clear hX HX HP
      go_wp2
      refine leaves_cons (f := 40) (args := #[.pointer (some ⟨s, 0, none⟩), .pointer (some ⟨w.heap.size, 0, none⟩)]) (by simp) (by simp [go_sem]) ?_
      refine (stop_end (0, D1, J, S1) HX4.out (fun _ => H0.out.st.ys) w.heap.size .returning ha4 HNe.out).mono ?_
      rintro e u' w'' ⟨rfl, rfl, h8, h9⟩
      exact ⟨_, result_sync _ _ w.heap.size _ rfl h9, by rw [HF.out], by rw [HF.out]; exact h8⟩
  · have HF : Hid (R = stopF (4, D, J, S)) := by show _ = _; rw [HP.out, if_pos hro]
    rw [hro] at c8
    obtain ⟨W4, hW4, HX4, ha4⟩ : ∃ W4, w1.setCell ⟨w.heap.size, 0, none⟩ (.int .i64 4) = W4 ∧ Hid (StoX Z Y w W4 s j d n D J S) ∧ W4.cell? ⟨w.heap.size, 0, none⟩ = some (.int .i64 4) :=
      ⟨_, rfl, StoX.refl H0.out (HB.out.setCell (Nat.le_refl _) _) (Nat.le_refl _), World.cell?_setCell_same w1 ⟨w.heap.size, 0, none⟩ _ f0⟩
    clear HP
    go_wp2
    refine leaves_cons (f := 40) (args := #[.pointer (some ⟨s, 0, none⟩), .pointer (some ⟨w.heap.size, 0, none⟩)]) (by simp) (by simp [go_sem]) ?_
    refine (stop_end (4, D, J, S) HX4.out (fun _ => H0.out.st.ys) w.heap.size .returning ha4 HNe.out).mono ?_
    rintro e u' w'' ⟨rfl, rfl, h8, h9⟩
    exact ⟨_, result_sync _ _ w.heap.size _ rfl h9, by rw [HF.out], by rw [HF.out]; exact h8⟩

set_option maxRecDepth 20000 in
set_option maxHeartbeats 400000 in
theorem counter_any (Y : Nat → Prop) (s : Nat) (dv jv mv : Value) (n : Nat) (S : St) (w : World) (h : StIn Y w s dv jv mv n S) :
    Calls Tryz.prog 27 #[.pointer (some ⟨s, 0, none⟩)] w fun e w' => e = .returned (.int .i64 S.cnt) ∧ w' = w := by
  have c6 : w.cell? ⟨s, 6, none⟩ = some (.int .i64 S.cnt) := (h.cell 6).trans rfl
  clear h
  go_enter Tryz.func27, Tryz.ntmps27
  go_wp2
  go_ret
  exact ⟨rfl, rfl⟩
/-- The keys that have values, in their order. -/
def StKeys (M : ByteArray → Se) (ks : List ByteArray) : Prop := ks.Pairwise (fun a b => bl a b = true) ∧ ∀ x, x ∈ ks ↔ (M x).L ≠ []
set_option maxRecDepth 20000 in
set_option maxHeartbeats 400000 in
theorem skeys_any (Y : Nat → Prop) (s : Nat) (dv jv mv : Value) (n : Nat) (S : St) (w : World) (h : StIn Y w s dv jv mv n S) (hn : n ≤ 1000000000) :
    Calls Tryz.prog 28 #[.pointer (some ⟨s, 0, none⟩)] w fun e w' => ∃ v ks, e = .returned v ∧ StKeys S.M ks ∧ OwnX w' w.heap.size v ks ∧ Below w.heap.size w w' := by
  have c5 : w.cell? ⟨s, 5, none⟩ = some mv := (h.cell 5).trans rfl
  obtain ⟨T, hT, hT2⟩ := h.tab.ex
  have HK := tKeys_any s 5 mv n T w c5 hT hn
  have HQ : Hid (∀ ks, TKeys T ks → StKeys S.M ks) := fun ks hk => by
    refine ⟨hk.1, fun x => (hk.2 x).trans ?_⟩
    cases hx : T x with
    | none => rw [(hT2 x).1 hx]; simp [Se.nil]
    | some v => simpa using ((hT2 x).2 v hx).1
  clear h c5 hT hT2
  go_enter Tryz.func28, Tryz.ntmps28
  go_wp2_with fail
  refine HK.mono ?_
  rintro e w' ⟨v, ks, rfl, h1, h2, h3⟩
  go_wp2
  go_ret
  exact ⟨v, ks, rfl, HQ.out ks h1, h2, h3⟩
end Go.Proofs.YtilkdeghknjjhaaGreatDoor
/- The store: Get. -/
namespace Go.Proofs.YtilkdeghknjjhaaGreatDoor
open Go.RowKit M Go.Maps
set_option linter.unusedVariables false

/-- What Get answers, of a store that is open: what GetEnd says; of a dead disk nothing. -/
def SGetEnd (dead : Bool) (key : ByteArray) (S : Se) (B : Nat) (e : Ending) (w' : World) : Prop :=
  (¬ (keyOK key = true ∧ dead = true) ∧ GetEnd key S B e w') ∨ (keyOK key = true ∧ dead = true ∧ e = .returned (.tuple #[.slice none 0 0, .string ⟨#[]⟩, .int .i64 7]))
set_option maxRecDepth 20000 in
set_option maxHeartbeats 1600000 in
theorem sget_any (Z Y : Nat → Prop) (s j d : Nat) (mv : Value) (n : Nat) (D : Dk) (J : Jn) (St0 : St) (key : ByteArray) (w : World) (h : Sto Z Y w s j d mv n D J St0) (hk : key.size ≤ maxLen) (h6 : (St0.M key).L.length ≤ 6) :
    Calls Tryz.prog 29 #[.pointer (some ⟨s, 0, none⟩), .string key] w fun e w' => SGetEnd (D.life == 0) key (St0.M key) w.heap.size e w' ∧ Below w.heap.size w w' := by
  obtain ⟨i0, hi, hz0, hz1, hz2⟩ := info_parts infoX
  have HCl : Hid (Calls Tryz.prog 39 #[.pointer (some ⟨s, 0, none⟩)] w fun e w' => e = .returned (.bool false) ∧ w' = w) := closed_no Y s j _ mv n St0 w h.st
  have HK0 : Hid (Calls Tryz.prog 53 #[.string key] w fun e w' => e = .returned (.bool (keyOK key)) ∧ w' = w) := isKey_any key w
  have HD : Hid (Calls Tryz.prog 54 #[.pointer (some ⟨d, 0, none⟩)] w fun e w' => e = .returned (.bool (D.life == 0)) ∧ w' = w) := Dead_any Z d D w h.side.dk
  obtain ⟨S, hS⟩ : ∃ S, St0.M key = S := ⟨_, rfl⟩
  obtain ⟨T, hT, hSet, hiff⟩ := h.st.tab.get key
  rw [hS] at hSet hiff h6 ⊢
  obtain ⟨uc, ul, hu, o1, o2, _, _⟩ := hSet.ex
  obtain ⟨a1, k1, rfl⟩ := own_shape o1
  obtain ⟨a2, k2, rfl⟩ := own_shape o2
  have c0 : w.cell? ⟨s, 0, none⟩ = some (.pointer (some ⟨d, 0, none⟩)) := (h.st.cell 0).trans rfl
  have c5 : w.cell? ⟨s, 5, none⟩ = some mv := (h.st.cell 5).trans rfl
  obtain ⟨there, hth⟩ : ∃ b, (T key).isSome = b := ⟨_, rfl⟩
  have HG : Hid (Calls Tryz.prog 55 #[.pointer (some ⟨s, 5, none⟩), .string key] w fun e w' => e = .returned (.tuple #[.agg #[.slice a1 S.C.length k1, .slice a2 S.L.length k2], .bool there]) ∧ Below w.heap.size w w') := by
    have := tGet_any s 5 mv n T key w c5 hT hk
    rw [hu, hth] at this
    exact this
  rw [hth] at hiff
  have hrl : RdS w (.slice a2 S.L.length k2) S.L := RdS.own o2 rfl
  have hrc : Rd w (.slice a1 S.C.length k1) S.C := Rd.own o1 rfl
  obtain ⟨dead, hdd⟩ : ∃ b, (D.life == 0) = b := ⟨_, rfl⟩
  rw [hdd] at HD ⊢
  clear hS hT hSet hu hth h c5 hdd
  cases hkk : keyOK key
  · have HE : Hid (SGetEnd dead key S w.heap.size (.returned (.tuple #[.slice none 0 0, .string ⟨#[]⟩, .int .i64 1])) w) := .inl ⟨fun hh => by rw [hkk] at hh; exact absurd hh.1 (by simp), _, _, _, rfl, .inl ⟨hkk, rfl, rfl, rfl⟩⟩
    rw [hkk] at HK0
    clear hkk
    go_enter Tryz.func29, Tryz.ntmps29
    go_wp2_with fail
    refine HCl.out.mono ?_
    rintro e w1 ⟨rfl, rfl⟩
    go_wp2_with fail
    refine HK0.out.mono ?_
    rintro e w2 ⟨rfl, rfl⟩
    go_wp2
    go_ret3
    exact ⟨HE.out, Below.refl _ _⟩
  · have HK : Hid (keyOK key = true) := hkk
    rw [hkk] at HK0
    clear hkk
    go_enter Tryz.func29, Tryz.ntmps29
    go_wp2_with fail
    refine HCl.out.mono ?_
    rintro e w1 ⟨rfl, rfl⟩
    go_wp2_with fail
    refine HK0.out.mono ?_
    rintro e w2 ⟨rfl, rfl⟩
    go_wp2_with fail
    refine HD.out.mono ?_
    rintro e w3 ⟨rfl, rfl⟩
    cases dead
    · go_wp2_with fail
      refine HG.out.mono ?_
      rintro e w1 ⟨rfl, hb1⟩
      clear HCl HK0 HD HG c0
      obtain ⟨W, hW, hb2, t0, t1, hbX⟩ : ∃ W, (w1.alloc (.cells #[.slice a1 S.C.length k1, .slice a2 S.L.length k2] 117)) = W ∧ Below w3.heap.size w3 W ∧ W.cell? ⟨w1.heap.size, 0, none⟩ = some (.slice a1 S.C.length k1) ∧ W.cell? ⟨w1.heap.size, 1, none⟩ = some (.slice a2 S.L.length k2) ∧ Below w1.heap.size w1 W :=
        ⟨_, rfl, hb1.alloc hb1.size _, by simp [go_sem], by simp [go_sem], (Below.refl _ _).alloc (Nat.le_refl _) _⟩
      have hs2 := hb2.size
      have HR1 : Hid (Rd W (.slice a1 S.C.length k1) S.C) := hrc.below hb2
      have HR2 : Hid (∀ j, j < S.L.length → ∃ g off, a2 = some ⟨g, off, none⟩ ∧ W.cell? ⟨g, off + j * 3, none⟩ = some (.int .i64 (sb S.L j).n) ∧ W.cell? ⟨g, off + j * 3 + 1, none⟩ = some (.int .i64 (sb S.L j).c) ∧ W.cell? ⟨g, off + j * 3 + 2, none⟩ = some (.string (sb S.L j).v)) := by
        intro j hj
        obtain ⟨p, q, e, _, _, hc⟩ := hrl.below hb2
        injection e with e1 e2 e3
        subst e1
        obtain ⟨g, off, ha, hc⟩ := hc (by omega)
        exact ⟨g, off, ha, hc j hj⟩
      clear hrc hrl o1 o2 hb1
      cases there
      · have hn : S.L = [] := by
          cases hl : S.L with
          | nil => rfl
          | cons x r => exact absurd (hiff.2 (by rw [hl]; simp)) (by simp)
        have HE : Hid (SGetEnd false key S w3.heap.size (.returned (.tuple #[.slice none 0 0, .string ⟨#[]⟩, .int .i64 8])) W) := .inl ⟨fun hh => absurd hh.2 (by simp), _, _, _, rfl, .inr (.inl ⟨HK.out, hn, rfl, rfl, rfl⟩)⟩
        clear hn hiff
        go_wp2
        go_ret3
        exact ⟨HE.out, hb2⟩
      have hn : S.L ≠ [] := hiff.1 rfl
      clear hiff
      have HN : Hid (S.L ≠ []) := hn
      have HL6 : Hid (S.L.length ≤ 6) := h6
      have hlen : 0 < S.L.length := List.length_pos_iff.2 hn
      clear hn h6
      go_upto_region 11 with (fail)
      clear hW
      go_wp2_with fail
      go_loopw [9, 40] (fun v i wr => ∃ k : Nat, k ≤ S.L.length ∧ i = .int .i64 k ∧ OwnX wr W.heap.size v (valsS (S.L.take k)) ∧ Below W.heap.size W wr) (fun _ i _ => S.L.length - (intOf i).toNat)
      case atStart => exact ⟨0, Nat.zero_le _, rfl, World.ownsRow_nil _ _ _ _, Below.refl _ _⟩
      case round =>
        obtain ⟨k, hk, rfl, ho, hb⟩ := hrel
        have hsz := hb.size
        have d0 := cell_later hb t0
        have d1 := cell_later hb t1
        obtain ⟨a3, cap3, hu3⟩ := own_shape ho
        subst hu3
        have hL6 := HL6.out
        by_cases hlt : k < S.L.length
        · obtain ⟨g, off, rfl, hr0, hr1, hr⟩ := HR2.out k hlt
          have q1 : (k : Int) < (S.L.length : Int) := by omega
          have q0 : (0 : Int) ≤ (k : Int) := by omega
          have e0 := cell_later hb hr
          have e1 := cell_later hb hr0
          have e2 := cell_later hb hr1
          have hlen2 : (valsS (S.L.take k)).length ≤ k := by unfold valsS; simp; omega
          have HS : Hid (valsS (S.L.take (k + 1)) = valsS (S.L.take k) ++ [(sb S.L k).v]) := valsS_snoc S.L k hlt
          obtain ⟨x, hx⟩ : ∃ x, (sb S.L k).v = x := ⟨_, rfl⟩
          obtain ⟨xn, hxn⟩ : ∃ x, (sb S.L k).n = x := ⟨_, rfl⟩
          obtain ⟨xc, hxc⟩ : ∃ x, (sb S.L k).c = x := ⟨_, rfl⟩
          rw [hx] at e0 HS
          rw [hxn] at e1
          rw [hxc] at e2
          obtain ⟨U, hU⟩ : ∃ U, valsS (S.L.take k) = U := ⟨_, rfl⟩
          rw [hU] at ho hlen2 HS
          obtain ⟨m, hm⟩ : ∃ m, U.length = m := ⟨_, rfl⟩
          rw [hU]
          unfold OwnX at ho
          rw [hm] at ho hlen2
          rw [hm]
          obtain ⟨W1, hW1, ho1, hb1, g2⟩ : ∃ W1, wr.alloc (.cells #[.int .i64 xn, .int .i64 xc, .string x] 122) = W1 ∧ W1.ownsRow W.heap.size 9 1 (.slice a3 m cap3) m (cellsX U) ∧ Below W.heap.size W W1 ∧ W1.cell? ⟨wr.heap.size, 2, none⟩ = some (.string x) :=
            ⟨_, rfl, ho.alloc _, hb.alloc (by omega) _, by rw [cell_of_row _ _ _ _ _ _ (heap_alloc_new wr _)]; rfl⟩
          have hsz1 := hb1.size
          have HB : Hid (Below W.heap.size W W1) := hb1
          clear hr hr0 hr1 hx hxn hxc hU hlen ho hb1 hb
          go_upto_region 14 with (fail)
          clear hW1
          go_wp2_with (first
            | (at_builtin; refine wpList_append_own _ rfl _ _ 34 rfl W.heap.size 9 i0 (.string ByteArray.empty) 1 16 Tryz.underlying34 hi hz0 hz1 hz2 rfl (by decide) _ _ _ rfl (ho1.alloc _) ⟨W1.heap.size, 0, none⟩ 1 1 [.string x] rfl rfl (cells_one_new _ _ _) (by simp; rfl) (by unfold maxLen; omega) (by omega) (by simp; omega) ?_))
          intro v' w2 hown' hgrow _
          have hb3 : Below W.heap.size W w2 := (HB.out.alloc (by omega) _).grown hgrow (by simp; omega) (fun q hq => (ho1.lt q hq).1)
          go_wp2
          go_roundw
          case rel => exact ⟨k + 1, by omega, by go_num, by unfold OwnX; rw [HS.out, List.length_append, cellsX_snoc, hm]; exact hown', hb3⟩
          case measure => simp [intOf]; omega
        · have he : k = S.L.length := by omega
          have HE : Hid (valsS (S.L.take k) = valsS S.L) := by show _ = _; rw [he, List.take_length]
          have q1 : ¬ (k : Int) < (S.L.length : Int) := by omega
          have HO : Hid (OwnX wr W.heap.size (.slice a3 (valsS (S.L.take k)).length cap3) (valsS S.L)) := by rw [← HE.out]; exact ho
          have hb4 := hb2.trans (hb.mono hs2)
          have HRR := HR1.out.below hb
          clear he ho
          go_wp2_with fail
          refine (Encode_f _ _ _ HRR).mono ?_
          rintro e w5 ⟨n5, rfl, hb5⟩
          have hb6 := hb4.trans (hb5.mono hb4.size)
          have HO5 : Hid (OwnX w5 w3.heap.size (.slice a3 (valsS (S.L.take k)).length cap3) (valsS S.L)) := own_base (own_below HO.out hb5) hs2
          clear hb hb2 hb4 hb5 HRR d0 d1 t0 t1
          go_wp2
          go_ret3
          exact ⟨.inl ⟨fun hh => absurd hh.2 (by simp), _, _, _, rfl, .inr (.inr ⟨HK.out, HN.out, HO5.out, rfl, rfl⟩)⟩, hb6⟩
    · have HE : Hid (SGetEnd true key S w3.heap.size (.returned (.tuple #[.slice none 0 0, .string ⟨#[]⟩, .int .i64 7])) w3) := .inr ⟨HK.out, rfl, rfl⟩
      go_wp2
      go_ret3
      exact ⟨HE.out, Below.refl _ _⟩
end Go.Proofs.YtilkdeghknjjhaaGreatDoor
/- The store on its disk: what its calls do. Plain facts. -/
namespace Go.Proofs.YtilkdeghknjjhaaGreatDoor
open Go.RowKit M
set_option linter.unusedVariables false

theorem bs_byte1 (n : Nat) (h : n < 256) : bs (byte1 n) = [UInt8.ofNat n] := rfl
theorem bs_szT (t : ByteArray) (h : t.size ≤ 255) : bs (szT t) = szB (bs t) := by
  unfold szT szB
  rw [bs_app, bs_byte1 _ (by omega), bs_len]; rfl
theorem bs_encM (m : Mt) (h : m.OK) : bs (encM m) = encB m := by
  unfold encM encB clkB
  rw [bs_app, bs_app, bs_app, bs_app, bs_szT _ h.k, bs_szT _ h.v, bs_byte1 _ (by split <;> omega)]
  simp only [List.append_assoc]
  split <;> rfl
theorem encM_size (m : Mt) (hk : m.k.size ≤ 255) (hv : m.v.size ≤ 255) : (encM m).size ≤ 1000 := by
  unfold encM
  have h1 := encT_size [(m.node, m.count)]
  have h2 := encT_size m.c
  have h3 : ∀ t : ByteArray, t.size ≤ 255 → (szT t).size ≤ 256 := fun t ht => by unfold szT; rw [ByteArray.size_append]; unfold byte1; rw [sz1]; omega
  have h4 := h3 m.k hk
  have h5 := h3 m.v hv
  have h6 : ∀ n, (byte1 n).size = 1 := fun n => rfl
  simp only [ByteArray.size_append, h6]
  omega
/-- What a mutation makes of the sets. -/
noncomputable def stepMt (M : ByteArray → Se) (m : Mt) : ByteArray → Se := keepM M m.k ⟨(outF (M m.k) m).1, (outF (M m.k) m).2.1⟩
noncomputable def runMt : (ByteArray → Se) → List Mt → (ByteArray → Se)
  | M, [] => M
  | M, m :: ms => runMt (stepMt M m) ms
theorem runMt_app : ∀ (a b : List Mt) (M : ByteArray → Se), runMt M (a ++ b) = runMt (runMt M a) b
  | [], b, M => rfl
  | m :: a, b, M => runMt_app a b (stepMt M m)
def zM : ByteArray → Se := fun _ => Se.nil
/-- A mutation that may come next. -/
structure MtAt (nd : Int) (M : ByteArray → Se) (c : Int) (m : Mt) : Prop where
  ok : m.OK
  node : m.node = nd
  count : m.count = c + 1
  key : keyOK m.k = true
  out : (outF (M m.k) m).2.2 = 0
/-- Mutations that may come one behind the other. -/
def GoodM (nd : Int) : (ByteArray → Se) → Int → List Mt → Prop
  | _, _, [] => True
  | M, c, m :: ms => MtAt nd M c m ∧ GoodM nd (stepMt M m) (c + 1) ms
theorem good_app {nd : Int} : ∀ (a b : List Mt) (M : ByteArray → Se) (c : Int), GoodM nd M c (a ++ b) ↔ GoodM nd M c a ∧ GoodM nd (runMt M a) (c + a.length) b
  | [], b, M, c => by simp [GoodM, runMt]
  | m :: a, b, M, c => by
    show (MtAt nd M c m ∧ GoodM nd (stepMt M m) (c + 1) (a ++ b)) ↔ (MtAt nd M c m ∧ GoodM nd (stepMt M m) (c + 1) a) ∧ GoodM nd (runMt (stepMt M m) a) (c + ((a.length + 1 : Nat) : Int)) b
    rw [good_app a b, show c + 1 + (a.length : Int) = c + ((a.length + 1 : Nat) : Int) by omega]
    exact and_assoc.symm
theorem good_snoc {nd : Int} {ms : List Mt} {m : Mt} (h : GoodM nd zM 0 ms) (hm : MtAt nd (runMt zM ms) ms.length m) : GoodM nd zM 0 (ms ++ [m]) :=
  (good_app ms [m] zM 0).2 ⟨h, by rw [Int.zero_add]; exact ⟨hm, trivial⟩⟩
theorem good_prefix {nd : Int} {a b : List Mt} (h : GoodM nd zM 0 b) (hp : a <+: b) : GoodM nd zM 0 a := by
  obtain ⟨c, rfl⟩ := hp
  exact ((good_app a c zM 0).1 h).1
/-- A key without values has nothing. -/
def Tidy (M : ByteArray → Se) : Prop := ∀ k, (M k).L = [] → M k = Se.nil
theorem tidy_keep {M : ByteArray → Se} (h : Tidy M) (k : ByteArray) (S : Se) : Tidy (keepM M k S) := fun x hx => by
  unfold keepM at hx ⊢
  by_cases e : x = k
  · subst e
    rw [upd_same] at hx ⊢
    by_cases hl : S.L = []
    · rw [if_pos hl]
    · rw [if_neg hl] at hx
      exact absurd hx hl
  · rw [upd_other _ _ e] at hx ⊢
    exact h x hx
theorem tidy_run : ∀ (ms : List Mt) (M : ByteArray → Se), Tidy M → Tidy (runMt M ms)
  | [], M, h => h
  | m :: ms, M, h => tidy_run ms _ (tidy_keep h _ _)
theorem tidy_z (ms : List Mt) : Tidy (runMt zM ms) := tidy_run ms _ fun _ _ => rfl
theorem keep_undo {M : ByteArray → Se} (h : Tidy M) (k : ByteArray) (S : Se) : keepM (keepM M k S) k (M k) = M := by
  funext x
  unfold keepM
  by_cases e : x = k
  · subst e
    rw [upd_same]
    by_cases hl : (M x).L = []
    · rw [if_pos hl, h x hl]
    · rw [if_neg hl]
  · rw [upd_other _ _ e, upd_other _ _ e]

/-- A disk that a store is found on. -/
structure DI (nd : Int) (D : Dk) (ms : List Mt) (hd : Nat) : Prop where
  wf : D.WF
  good : GoodM nd zM 0 ms
  ex : ∃ k sz cut, JD D ms k sz cut false hd
/-- A store that is open, on its disk, and may write. -/
structure SI (nd : Int) (D : Dk) (J : Jn) (S : St) (ms : List Mt) (hd : Nat) : Prop where
  wf : D.WF
  good : GoodM nd zM 0 ms
  jd : JDJ D ms J false hd
  node : S.node = nd
  M : S.M = runMt zM ms
  cnt : S.cnt = ms.length
  roll : J.roll ≤ 100000
  held : S.held = hd
  hle : hd ≤ ms.length
  ro : S.ro = false
  sz : J.size ≤ 100000
theorem SI.di {nd : Int} {D : Dk} {J : Jn} {S : St} {ms : List Mt} {hd : Nat} (h : SI nd D J S ms hd) : DI nd D ms hd := ⟨h.wf, h.good, _, _, _, h.jd⟩
theorem JD.kf {D : Dk} {ms : List Mt} {k sz : Nat} {cut sy : Bool} {hd : Nat} (h : JD D ms k sz cut sy hd) : k ≤ D.files.length := by
  obtain ⟨a, F, B, T, g1, _⟩ := h
  exact g1.kf
/-- So many are held behind one more. -/
def heldE (every : Int) (n hd : Nat) : Nat := if every = 0 ∨ (n : Int) + 1 - hd < every then hd else n + 1
theorem jappend_num1 {D : Dk} {J : Jn} {t : ByteArray} (h : (jappend D J t).1 = true) : 1 ≤ (jappend D J t).2.2.num := by
  unfold jappend at h ⊢
  cases hn : jneeds J t
  · rw [if_neg (by simp)]
    rw [jwrite_num]
    unfold jneeds at hn
    simp only [Bool.or_eq_false_iff, decide_eq_false_iff_not] at hn
    omega
  · rw [hn, if_pos rfl] at h
    rw [if_pos rfl]
    cases hb : (jbegin D J).1
    · rw [hb, if_neg (by simp)] at h; cases h
    · rw [if_pos rfl, jwrite_num]
      unfold jbegin at hb ⊢
      cases hs : (jsl D J).1
      · rw [hs, if_pos rfl] at hb; cases hb
      · rw [hs, if_neg (by simp)] at hb
        rw [if_neg (by simp)]
        cases hc : (jsl D J).2.creates (fnm (J.num + 1))
        · rw [hc, if_pos rfl] at hb; cases hb
        · rw [if_neg (by simp)]; show 1 ≤ J.num + 1; omega
/-- What is written keeps the disk in order. -/
theorem jappend_wf {D : Dk} {ms : List Mt} {J : Jn} {sy : Bool} {hd : Nat} (h : JDJ D ms J sy hd) (hw : D.WF) (hbu : D.Bud 3) (hk : J.num < 900000000) (t : ByteArray) (hts : t.size ≤ 1000) : (jappend D J t).2.1.WF := by
  obtain ⟨b1, b2, b3, b4⟩ := jbegin_jd h hw (hbu.mono (by omega)) (by omega)
  have bw := jbegin_wf hw 1 hbu J
  have bb := jbegin_bud hw (k := 1) hbu J
  unfold jappend
  cases hn : jneeds J t
  · rw [if_neg (by simp)]
    unfold jneeds at hn
    simp only [Bool.or_eq_false_iff, decide_eq_false_iff_not] at hn
    have := JD.sz_le h (by omega)
    exact jwrite_wf hw (hbu.mono (by omega)) J t (by rw [JD.sizeOf h (by omega)]; omega)
  · rw [if_pos rfl]
    cases hb : (jbegin D J).1
    · rw [if_neg (by simp)]; exact bw
    · rw [if_pos rfl]
      obtain ⟨e1, e2, e3⟩ := b1 hb
      rw [e3] at e1
      rw [e3]
      exact jwrite_wf bw bb _ t (by rw [JD.sizeOf e1 (by show 1 ≤ J.num + 1; omega)]; show 0 + t.size ≤ _; omega)
/-- What do answers. -/
inductive DoRes (nd : Int) (D : Dk) (J : Jn) (S : St) (ms : List Mt) (hd : Nat) (m : Mt) : Int × Dk × Jn × St → Prop where
  | full : D.cap - D.bytes < 4000 → DoRes nd D J S ms hd m (6, D, J, S)
  | done (D' : Dk) (J' : Jn) (S' : St) : SI nd D' J' S' (ms ++ [m]) (heldE S.every ms.length hd) → D'.failed = D.failed → D'.cap = D.cap → S'.every = S.every → S'.roll = S.roll → DoRes nd D J S ms hd m (0, D', J', S')
  | fail (D' : Dk) (J' : Jn) (S' : St) (ms' : List Mt) : (ms' = ms ∨ ms' = ms ++ [m]) → DI nd D' ms' hd → D.failed < D'.failed → D'.cap = D.cap → S'.M = S.M → S'.cnt = S.cnt → S'.node = S.node → S'.every = S.every → S'.roll = S.roll → S'.ro = S.ro → DoRes nd D J S ms hd m (7, D', J', S')
theorem doF_res {nd : Int} {D : Dk} {J : Jn} {S : St} {ms : List Mt} {hd n : Nat} {m : Mt} (h : SI nd D J S ms hd) (hb : D.Bud (n + 5)) (hn : 900000000 ≤ n) (hm : MtAt nd S.M S.cnt m) :
    DoRes nd D J S ms hd m (doF D J S m) := by
  have hnum : J.num < 900000000 := by have := JD.kf h.jd; have := hb.l; omega
  have hmM : MtAt nd (runMt zM ms) ms.length m := by rw [← h.M, ← h.cnt]; exact hm
  have hg := good_snoc h.good hmM
  have hlen : (ms ++ [m]).length = ms.length + 1 := by simp
  have hM2 : keepM S.M m.k ⟨(outF (S.M m.k) m).1, (outF (S.M m.k) m).2.1⟩ = runMt zM (ms ++ [m]) := by
    rw [runMt_app, ← h.M]; rfl
  have hun : keepM (keepM S.M m.k ⟨(outF (S.M m.k) m).1, (outF (S.M m.k) m).2.1⟩) m.k (S.M m.k) = S.M := keep_undo (by rw [h.M]; exact tidy_z ms) _ _
  have hct := hm.count
  unfold doF doG
  rw [if_neg (by rw [hm.out]; simp)]
  by_cases hl : D.cap - D.bytes < 4000
  · rw [if_pos hl]; exact .full hl
  · rw [if_neg hl]
    have hsz := encM_size m hm.ok.k hm.ok.v
    obtain ⟨a1, a2, a3, a4, a5⟩ := jappend_jd h.jd h.wf (hb.mono (by omega)) hnum h.roll (encM m) m (bs_encM m hm.ok) hm.ok hsz (by omega)
    unfold writeF
    cases hap : (jappend D J (encM m)).1
    · rw [if_pos rfl]
      obtain ⟨a6, a7⟩ := a2 hap
      unfold doW
      simp only [Bool.false_eq_true, if_false]
      exact .fail _ _ _ ms (.inl rfl) ⟨a5, h.good, _, _, _, a6⟩ a7 a3 hun (by show m.count - 1 = S.cnt; omega) rfl rfl rfl rfl
    · rw [if_neg (by simp)]
      obtain ⟨a6, a7⟩ := a1 hap
      by_cases he : S.every = 0 ∨ m.count - S.held < S.every
      · rw [if_pos he]
        unfold doW
        simp only [if_true]
        have hh : heldE S.every ms.length hd = hd := by
          unfold heldE
          have := h.cnt; have := h.held
          rw [if_pos (he.imp (fun h => h) (fun h => by omega))]
        exact .done _ _ _ ⟨a5, hg, by rw [hh]; exact a6, h.node, hM2, by show m.count = _; rw [hlen]; have := h.cnt; omega, by rw [a4]; exact h.roll, by rw [hh]; exact h.held, by rw [hh, hlen]; have := h.hle; omega, h.ro, JD.sz_le a6 (jappend_num1 hap)⟩ a7 a3 rfl rfl
      · rw [if_neg he]
        obtain ⟨s1, s2, s3, s4⟩ := jsync_jd a6 a5
        have hw6 := jsync_wf a5 0 (by have := jappend_bud h.wf (k := 2) (hb.mono (by omega)) J (encM m); exact this) (jappend D J (encM m)).2.2
        have hh : heldE S.every ms.length hd = ms.length + 1 := by
          unfold heldE
          have := h.cnt; have := h.held
          rw [if_neg (fun hx => he (hx.imp (fun h => h) (fun h => by omega)))]
        unfold holdF
        cases hs : (jsync (jappend D J (encM m)).2.1 (jappend D J (encM m)).2.2).1
        · rw [if_neg (by simp)]
          obtain ⟨s5, s6⟩ := s2 hs
          unfold doW
          simp only [Bool.false_eq_true, if_false]
          exact .fail _ _ _ (ms ++ [m]) (.inr rfl) ⟨hw6, hg, _, _, _, s5⟩ (by omega) (s3.trans a3) hun (by show m.count - 1 = S.cnt; omega) rfl rfl rfl rfl
        · rw [if_pos rfl]
          obtain ⟨s5, s6⟩ := s1 hs
          unfold doW
          simp only [if_true]
          have hc2 : m.count = ((ms ++ [m]).length : Int) := by rw [hlen]; have := h.cnt; omega
          exact .done _ _ _ ⟨hw6, hg, by rw [hh, ← hlen]; exact s5.less, h.node, hM2, hc2, by rw [a4]; exact h.roll, by show m.count = _; rw [hh, ← hlen]; exact hc2, by rw [hh, hlen]; exact Nat.le_refl _, h.ro, JD.sz_le a6 (jappend_num1 hap)⟩ (by omega) (s3.trans a3) rfl rfl
/-- What Sync answers. -/
theorem syncF_res {nd : Int} {D : Dk} {J : Jn} {S : St} {ms : List Mt} {hd : Nat} (h : SI nd D J S ms hd) (hb : D.Bud 2) :
    ((syncF D J S).1 = 0 ∧ SI nd (syncF D J S).2.1 J (syncF D J S).2.2.2 ms ms.length ∧ (syncF D J S).2.1.failed = D.failed ∧ (syncF D J S).2.2.1 = J ∧ (syncF D J S).2.2.2 = { S with held := S.cnt } ∧ (syncF D J S).2.1.cap = D.cap) ∨
    ((syncF D J S).1 = 7 ∧ DI nd (syncF D J S).2.1 ms hd ∧ D.failed < (syncF D J S).2.1.failed ∧ (syncF D J S).2.2.2 = { S with ro := true } ∧ (syncF D J S).2.1.cap = D.cap) := by
  obtain ⟨s1, s2, s3, s4⟩ := jsync_jd h.jd h.wf
  have hw := jsync_wf h.wf 0 hb J
  cases hs : (jsync D J).1
  · obtain ⟨s5, s6⟩ := s2 hs
    have hH : holdF D J S = (false, (jsync D J).2, S) := by unfold holdF; rw [if_neg (by rw [hs]; simp)]
    have e : syncF D J S = (7, (jsync D J).2, J, { S with ro := true }) := by
      unfold syncF; rw [if_neg (by rw [h.ro]; simp), hH]; rfl
    rw [e]
    exact .inr ⟨rfl, ⟨hw, h.good, _, _, _, s5⟩, s6, rfl, s3⟩
  · obtain ⟨s5, s6⟩ := s1 hs
    have hH : holdF D J S = (true, (jsync D J).2, { S with held := S.cnt }) := by unfold holdF; rw [if_pos hs]
    have e : syncF D J S = (0, (jsync D J).2, J, { S with held := S.cnt }) := by
      unfold syncF; rw [if_neg (by rw [h.ro]; simp), hH]; rfl
    rw [e]
    exact .inl ⟨rfl, ⟨hw, h.good, s5.less, h.node, h.M, h.cnt, h.roll, h.cnt, Nat.le_refl _, h.ro, h.sz⟩, s6, rfl, rfl, s3⟩
end Go.Proofs.YtilkdeghknjjhaaGreatDoor
/- Records, one behind the other, and what a crash has left of the next. Plain facts. -/
namespace Go.Proofs.YtilkdeghknjjhaaGreatDoor
open Go.RowKit M
set_option linter.unusedVariables false

/-- What the store is behind some records. -/
noncomputable def runS : St → List Mt → St
  | S, [] => S
  | S, m :: ms => runS (redoF S m).2 ms
/-- They are all redone. -/
def okS : St → List Mt → Prop
  | _, [] => True
  | S, m :: ms => (redoF S m).1 = true ∧ okS (redoF S m).2 ms
theorem okS_app : ∀ (a b : List Mt) (S : St), okS S (a ++ b) ↔ okS S a ∧ okS (runS S a) b
  | [], b, S => by simp [okS, runS]
  | m :: a, b, S => by
    show (_ ∧ okS (redoF S m).2 (a ++ b)) ↔ (_ ∧ okS (redoF S m).2 a) ∧ okS (runS (redoF S m).2 a) b
    rw [okS_app a b]
    exact and_assoc.symm
theorem runS_app : ∀ (a b : List Mt) (S : St), runS S (a ++ b) = runS (runS S a) b
  | [], b, S => rfl
  | m :: a, b, S => runS_app a b _
theorem redo_at {nd : Int} {S : St} {m : Mt} (h : MtAt nd S.M S.cnt m) : redoF S m = (true, { S with M := stepMt S.M m, cnt := m.count }) := by
  unfold redoF
  rw [if_pos ⟨h.count, h.key, h.out⟩]
  rfl
theorem good_ok {nd : Int} : ∀ (ms : List Mt) (S : St), GoodM nd S.M S.cnt ms → okS S ms ∧ runS S ms = { S with M := runMt S.M ms, cnt := S.cnt + ms.length }
  | [], S, _ => ⟨trivial, by show S = { S with M := S.M, cnt := S.cnt + 0 }; rw [Int.add_zero]⟩
  | m :: ms, S, h => by
    obtain ⟨h1, h2⟩ := h
    have e := redo_at h1
    have hc := h1.count
    obtain ⟨i1, i2⟩ := good_ok ms { S with M := stepMt S.M m, cnt := m.count } (by show GoodM nd (stepMt S.M m) m.count ms; rw [hc]; exact h2)
    refine ⟨⟨by rw [e], by rw [e]; exact i1⟩, ?_⟩
    show runS (redoF S m).2 ms = _
    rw [e, i2]
    show ({ S with M := runMt (stepMt S.M m) ms, cnt := m.count + ms.length } : St) = { S with M := runMt S.M (m :: ms), cnt := S.cnt + ((ms.length + 1 : Nat) : Int) }
    rw [hc, show S.cnt + 1 + (ms.length : Int) = S.cnt + ((ms.length + 1 : Nat) : Int) by omega]
    rfl
/-- A record's first byte. -/
theorem enc_head (m : Mt) : ∃ b r, encB m = b :: r ∧ b.toNat = if m.del = true then 2 else 1 := by
  refine ⟨_, _, rfl, ?_⟩
  split <;> rfl
theorem mark_at (pre rest : Bs) (m : Mt) : rlen (pre ++ (encB m ++ rest)) ⟨pre.length, false⟩ = (if m.del = true then 2 else 1, ⟨pre.length + 1, false⟩) := by
  obtain ⟨b, r, e, hb⟩ := enc_head m
  rw [e, List.cons_append, rlen_at, hb]
/-- What is left of a record is short. -/
theorem tail_short (pre t : Bs) (h : Tail t) (ht : t ≠ []) : ∃ gone : Bool, rlen (pre ++ t) ⟨pre.length, false⟩ = (if gone = true then 2 else 1, ⟨pre.length + 1, false⟩) ∧ (rmut (pre ++ t) ⟨pre.length + 1, false⟩ gone).2.s = true := by
  rcases h with h | ⟨m, hm, n, hn, rfl⟩
  · exact absurd h ht
  · refine ⟨m.del, ?_, ?_⟩
    · obtain ⟨b, r, e, hb⟩ := enc_head m
      cases n with
      | zero => simp at ht
      | succ n =>
        rw [e, List.take_succ_cons, rlen_at, hb]
    · have h1 := rmut_at pre m [] hm
      rw [List.append_nil] at h1
      have hn0 : 1 ≤ n := by
        cases n with
        | zero => simp at ht
        | succ n => omega
      have h2 := ((good_mut m.del).cut (pre ++ encB m) ⟨pre.length + 1, false⟩ (pre.length + n) (by show (rmut _ _ _).2.s = false; rw [h1]) (by show pre.length + 1 ≤ _; omega) (by rw [List.length_append]; omega)).2 (by show _ < (rmut _ _ _).2.a; rw [h1]; show _ < pre.length + (encB m).length; omega)
      have e : (pre ++ encB m).take (pre.length + n) = pre ++ (encB m).take n := by
        rw [List.take_append, List.take_of_length_le (by omega), Nat.add_sub_cancel_left]
      rw [e] at h2
      exact h2
end Go.Proofs.YtilkdeghknjjhaaGreatDoor
