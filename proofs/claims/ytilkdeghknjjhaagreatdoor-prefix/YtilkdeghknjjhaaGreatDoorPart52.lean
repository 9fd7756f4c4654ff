/- The journal: Open, on a disk that is not dead. -/
import Derived.Test.YtilkdeghknjjhaaGreatDoorPart51
namespace Go.Proofs.YtilkdeghknjjhaaGreatDoor
open Go.RowKit M Go.Maps
set_option linter.unusedVariables false

/-- A store that is about to be found: its block, its disk. -/
structure PreS (Z Y : Nat → Prop) (w : World) (s d : Nat) (mv : Value) (n : Nat) (D : Dk) (S : St) : Prop where
  dk : DiskAt Z w d D
  st : StIn Y w s (.pointer (some ⟨d, 0, none⟩)) (.pointer none) mv n S
  vs : Vars w
  dj : ∀ k, Z k → Y k → False
  lz : ∀ k, Z k → k < w.heap.size
  v5 : ∀ k, k < 5 → ¬ Z k ∧ ¬ Y k
theorem OpS.open_ {Z Y : Nat → Prop} {w : World} {s j p d : Nat} {mv mg : Value} {n : Nat} {D : Dk} {J : Jn} {S : St} (h : OpS Z Y w s j p d mv mg n D J S) : Side (Zn Z w.heap.size) w j d D J ∧ Apart (Zn Z w.heap.size) j := by
  refine ⟨⟨h.side.dk.mono fun k hk => .inl hk, h.side.jn, h.side.vs⟩, ⟨fun hj => ?_, fun k hk hz => ?_, h.j5⟩⟩
  · rcases hj with hj | hj
    · exact h.zj hj
    · have := h.jlt.1; omega
  · rcases hz with hz | hz
    · exact (h.v5 k hk).1 hz
    · have := h.side.vs.five; omega
theorem OpS.disk {Z Y : Nat → Prop} {w w' : World} {s j p d : Nat} {mv mg : Value} {n : Nat} {D D' : Dk} {J : Jn} {S : St} (h : OpS Z Y w s j p d mv mg n D J S) (hs : Side (Zn Z w.heap.size) w' j d D' J) (t : Tr (Zn Z w.heap.size) w w') : OpS (Yn Z w.heap.size w'.heap.size) Y w' s j p d mv mg n D' J S := by
  obtain ⟨hj, hp⟩ := h.jlt
  refine ⟨⟨hs.dk.close.mono fun k hk => ?_, hs.jn, hs.vs⟩, h.st.tr t (fun k hk hz => ?_), h.rp.tr t (fun hz => ?_), fun hz => ?_, h.yj, fun hz => ?_, h.yp, h.jp, fun k hz hy => ?_, fun k hz => ?_, fun k hk => ⟨fun hz => ?_, (h.v5 k hk).2⟩, h.j5, h.p5⟩
  · obtain ⟨hz | hz, hl⟩ := hk
    · exact .inl hz
    · exact .inr ⟨hz, hl⟩
  · rcases hz with hz | hz
    · exact h.dj k hz hk
    · have := h.st.lt k hk; omega
  · rcases hz with hz | hz
    · exact h.zp hz
    · omega
  · rcases hz with hz | hz
    · exact h.zj hz
    · omega
  · rcases hz with hz | hz
    · exact h.zp hz
    · omega
  · rcases hz with hz | hz
    · exact h.dj k hz hy
    · have := h.st.lt k hy; omega
  · rcases hz with hz | hz
    · exact Nat.lt_of_lt_of_le (h.lz k hz) t.size
    · exact hz.2
  · rcases hz with hz | hz
    · exact (h.v5 k hk).1 hz
    · have := h.side.vs.five; omega
/-- What Open answers: the journal, if all was made sure of. -/
def JOpenE (Z Y : Nat → Prop) (w w' : World) (e : Ending) (s d n : Nat) (D : Dk) (ms : List Mt) (roll hd : Nat) (S : St) : Prop :=
  ∃ j p Z' Y' mv' mg' n' J, e = .returned (if (jsync D J).1 = true then .tuple #[.pointer (some ⟨j, 0, none⟩), .bool true] else .tuple #[.pointer none, .bool false]) ∧ w.heap.size ≤ j ∧ n' ≤ n ∧ J.roll = roll ∧ J.size ≤ 100000 ∧ JDJ D ms J false hd ∧ OpS Z' Y' w' s j p d mv' mg' n' (jsync D J).2 J S ∧
    (∀ k, Z' k → Z k ∨ w.heap.size ≤ k) ∧ (∀ k, Y' k → Y k ∨ w.heap.size ≤ k) ∧ Tr (fun k => Z k ∨ Y k) w w'

set_option maxRecDepth 20000 in
set_option maxHeartbeats 800000 in
theorem jOpen_live (Z Y : Nat → Prop) (s d : Nat) (mv : Value) (n : Nat) (D : Dk) (S : St) (roll : Nat) (nd : Int) (ms : List Mt) (k sz : Nat) (cut sy : Bool) (hd : Nat) (w : World) (h : PreS Z Y w s d mv n D S) (hwf : D.WF) (hbu : D.Bud 2) (hl : D.life ≠ 0) (hJ : JD D ms k sz cut sy hd) (hg : GoodM nd S.M S.cnt ms) (hr : roll ≤ 100000) (hkf : D.files.length ≤ 100000000)
    (hn : n + ms.length + k < 10000000000) (hc0 : 0 ≤ S.cnt) (hc1 : S.cnt + ms.length ≤ 4611686018427380000) :
    Calls Tryz.prog 85 #[.pointer (some ⟨d, 0, none⟩), .int .i64 roll, .func (.func 86) #[.pointer (some ⟨s, 0, none⟩)] #[], .func (.func 87) #[.pointer (some ⟨s, 0, none⟩)] #[]] w fun e w' => JOpenE Z Y w w' e s d (n + ms.length + k) D ms roll hd (runS S ms) := by
  have hk := hJ.kf
  obtain ⟨a, F, B, T, g1, g2, g3, g4, g5⟩ := hJ
  obtain ⟨is, i1, i2, i3, i4⟩ := g1.nums (by omega)
  have hw5 := h.vs.five
  obtain ⟨W1, hW1, HB1, HR1⟩ : ∃ W1, w.alloc (.cells #[.pointer (some ⟨d, 0, none⟩), .int .i64 roll, .int .i64 0, .int .i64 0, .bool false] 199) = W1 ∧ Hid (Below w.heap.size w W1 ∧ W1.heap.size = w.heap.size + 1) ∧ Hid (JAt W1 w.heap.size d ⟨roll, 0, 0, false⟩) :=
    ⟨_, rfl, ⟨(Below.refl _ _).alloc (Nat.le_refl _) _, by simp⟩, heap_alloc_new w _⟩
  obtain ⟨W2, hW2, HB2, HO2⟩ : ∃ W2, W1.alloc (.cells (repRow s (.pointer none)) 220) = W2 ∧ Hid (Below w.heap.size w W2 ∧ W2.heap.size = w.heap.size + 2) ∧ Hid (OpS Z Y W2 s w.heap.size W1.heap.size d mv (.pointer none) n D ⟨roll, 0, 0, false⟩ S) := by
    have hb12 : Below W1.heap.size W1 (W1.alloc (.cells (repRow s (.pointer none)) 220)) := (Below.refl _ _).alloc (Nat.le_refl _) _
    have hb : Below w.heap.size w (W1.alloc (.cells (repRow s (.pointer none)) 220)) := belowN HB1.out.1 hb12
    have hs1 := HB1.out.2
    have hsz : (W1.alloc (.cells (repRow s (.pointer none)) 220)).heap.size = w.heap.size + 2 := by simp; omega
    refine ⟨_, rfl, ⟨hb, hsz⟩, ⟨⟨h.dk.below hb, HR1.out.below hb12, h.vs.below hb⟩, h.st.below hb, heap_alloc_new W1 _, fun hz => ?_, fun hy => ?_, fun hz => ?_, fun hy => ?_, by omega, h.dj, fun q hq => ?_, h.v5, hw5, by omega⟩⟩
    · have := h.lz _ hz; omega
    · have := h.st.lt _ hy; omega
    · have := h.lz _ hz; omega
    · have := h.st.lt _ hy; omega
    · have := h.lz q hq; omega
  have hp1 : W1.heap.size = w.heap.size + 1 := HB1.out.2
  unfold repRow at hW2
  have HLi : Hid (∀ X, OpS Z Y X s w.heap.size W1.heap.size d mv (.pointer none) n D ⟨roll, 0, 0, false⟩ S → Calls Tryz.prog 123 #[.pointer (some ⟨d, 0, none⟩)] X fun e w' => ∃ v, e = .returned v ∧ w'.ownsRow 0 9 1 v is.length (cellsX (is.map fnm)) ∧ Below X.heap.size X w') := fun X hX => by
    refine (List_any Z d D X hX.side.dk hwf.ok).mono ?_
    rintro e w' ⟨v', he, ho, hb⟩
    refine ⟨v', he, ?_, hb⟩
    unfold Dk.list at ho
    rw [if_neg hl, i1] at ho
    unfold OwnX at ho
    rw [List.length_map] at ho
    exact own_base ho (Nat.zero_le _)
  have HNu : Hid (∀ X v, OpS Z Y X s w.heap.size W1.heap.size d mv (.pointer none) n D ⟨roll, 0, 0, false⟩ S → X.ownsRow 0 9 1 v is.length (cellsX (is.map fnm)) → Calls Tryz.prog 146 #[v] X fun e w' => ∃ v', e = .returned v' ∧ w'.ownsRow X.heap.size 3 1 v' k (cellsI (numsI (List.range' 1 k))) ∧ Below X.heap.size X w') := fun X v hX hv => by
    have := numbers_any is v X hv (by omega) (fun i hi => by have := (i2 i).1 hi; omega) hX.side.vs
    rw [i4, i3] at this
    exact this
  have HNe : Hid (∀ X v B0, OpS Z Y X s w.heap.size W1.heap.size d mv (.pointer none) n D ⟨roll, 0, 0, false⟩ S → X.ownsRow B0 3 1 v k (cellsI (numsI (List.range' 1 k))) → Calls Tryz.prog 145 #[.pointer (some ⟨w.heap.size, 0, none⟩), v] X fun e w' => e = .returned v ∧ Below X.heap.size X w') := fun X v B0 hX hv => by
    have hlr : (List.range' 1 k).length = k := List.length_range'
    refine needed_all Z w.heap.size d D _ (List.range' 1 k) v X hX.side hwf ?_ (by omega) (fun i hi => ?_)
    · rw [hlr]; exact own_base hv (Nat.zero_le _)
    · have := List.mem_range'_1.1 hi
      exact ⟨by omega, g1.no_hint i⟩
  have HRd : Hid (∀ X t Y' mv' mg' n' J, t < k → n' ≤ n + (allB B t).length + t → OpS Z Y' X s w.heap.size W1.heap.size d mv' mg' n' D J (runS S (allB B t)) → J.num = t → J.roll = roll → Calls Tryz.prog 147 #[.pointer (some ⟨w.heap.size, 0, none⟩), .int .i64 ((t + 1 : Nat) : Int), .pointer (some ⟨W1.heap.size, 0, none⟩)] X fun e w' => e = .returned (.bool true) ∧ ∃ J', J'.num = t + 1 ∧ J'.roll = roll ∧ J'.size = (fl D.files (F (t + 1))).d.size ∧ (J'.cut = true ↔ T (t + 1) ≠ []) ∧ ReadE Z Y' X w' s w.heap.size W1.heap.size d (n + (allB B (t + 1)).length + (t + 1)) D J' (runS S (allB B (t + 1)))) := fun X t Y' mv' mg' n' J ht hn' hX hjn hjr => by
    have hpre := allB_prefix B k (t + 1) (by omega)
    have hga : GoodM nd S.M S.cnt (allB B (t + 1)) := by
      obtain ⟨c, hc⟩ := hpre
      rw [← g2, ← hc] at hg
      exact ((good_app (allB B (t + 1)) c S.M S.cnt).1 hg).1
    have hga2 := (good_app (allB B t) (B (t + 1)) S.M S.cnt).1 hga
    have hrs := (good_ok (allB B t) S hga2.1).2
    have hle : (allB B (t + 1)).length ≤ ms.length := by rw [← g2]; exact hpre.length_le
    have hls : (allB B (t + 1)).length = (allB B t).length + (B (t + 1)).length := by show (allB B t ++ B (t + 1)).length = _; rw [List.length_append]
    have hat := g1.at_ (i := t + 1) (by omega) (by omega)
    have hda : D.dataOf (fnm (t + 1)) = (fl D.files (F (t + 1))).d := by unfold Dk.dataOf; rw [hat.2]
    have hb1 := g1.bnd (t + 1) (by omega) (by omega)
    have := read_any Z Y' s w.heap.size W1.heap.size d mv' mg' n' D J (runS S (allB B t)) (t + 1) (fl D.files (F (t + 1))).d nd (B (t + 1)) (T (t + 1)) X hX hwf hl hat.1 hda (g1.dat (t + 1) (by omega) (by omega)) (by omega) (g1.ok (t + 1) (by omega) (by omega)).2 (g1.ok (t + 1) (by omega) (by omega)).1 (by rw [hrs]; exact hga2.2) (by omega) (by rw [hrs]; show 0 ≤ S.cnt + _; omega) (by rw [hrs]; show S.cnt + _ + _ ≤ _; omega) (by omega) (by omega)
    refine this.mono ?_
    rintro e w' ⟨he, ⟨Y2, mv2, mg2, n2, hn2, h2, h3⟩, t2⟩
    refine ⟨he, ⟨J.roll, t + 1, (fl D.files (F (t + 1))).d.size, decide (T (t + 1) ≠ [])⟩, rfl, hjr, rfl, by simp, ⟨Y2, mv2, mg2, n2, by omega, ?_, h3⟩, t2⟩
    show OpS Z Y2 w' s w.heap.size W1.heap.size d mv2 mg2 n2 D _ (runS S (allB B t ++ B (t + 1)))
    rw [runS_app]; exact h2
  have HSy : Hid (∀ X Y' mv' mg' n' J, OpS Z Y' X s w.heap.size W1.heap.size d mv' mg' n' D J (runS S ms) → J.num = k → Calls Tryz.prog 69 #[.pointer (some ⟨w.heap.size, 0, none⟩)] X fun e w' => e = .returned (.bool (jsync D J).1) ∧ OpS (Yn Z X.heap.size w'.heap.size) Y' w' s w.heap.size W1.heap.size d mv' mg' n' (jsync D J).2 J (runS S ms) ∧ Tr (Zn Z X.heap.size) X w') := fun X Y' mv' mg' n' J hX hjn => by
    obtain ⟨o1, o2⟩ := hX.open_
    refine (jSync_any (Zn Z X.heap.size) w.heap.size d D J X o1 o2 hwf hbu (by omega)).mono ?_
    rintro e w' ⟨he, h1, t1⟩
    exact ⟨he, hX.disk h1 t1, t1⟩
  have HJJ : Hid (∀ J : Jn, J.num = k → (1 ≤ k → J.size = (fl D.files (F k)).d.size ∧ (J.cut = true ↔ T k ≠ [])) → JDJ D ms J false hd) := fun J h1 h2 => by
    show JD D ms J.num J.size J.cut false hd
    rw [h1]
    exact ⟨a, F, B, T, g1, g2, g3, h2, fun hh => by cases hh⟩
  have HB0 : Hid (allB B k = ms) := g2
  have HBd : Hid (∀ i, 1 ≤ i → i ≤ k → (fl D.files (F i)).d.size ≤ 100000) := g1.bnd
  have hk1 : (k : Int) ≤ 100000000 := by omega
  have hk2 : k ≤ 100000000 := by omega
  have HP1 : Hid (W1.heap.size = w.heap.size + 1) := hp1
  clear hp1
  have HYl : Hid (∀ q, Y q → q < w.heap.size) := h.st.lt
  clear h hwf hbu hl hg g1 g2 g3 g4 g5 i1 i2 i3 i4 HR1
  go_enter Tryz.func85, Tryz.ntmps85
  go_upto_region 2 with (fail)
  clear hW1
  go_upto_region 3 with (fail)
  clear hW2
  go_wp2_with fail
  refine (HLi.out W2 HO2.out).mono ?_
  rintro e w3 ⟨v3, rfl, ho3, hb3⟩
  have HO3 : Hid (OpS Z Y w3 s w.heap.size W1.heap.size d mv (.pointer none) n D ⟨roll, 0, 0, false⟩ S) := HO2.out.below hb3
  go_wp2_with fail
  refine (HNu.out w3 v3 HO3.out ho3).mono ?_
  rintro e w4 ⟨v4, rfl, ho4, hb4⟩
  have HO4 : Hid (OpS Z Y w4 s w.heap.size W1.heap.size d mv (.pointer none) n D ⟨roll, 0, 0, false⟩ S) := HO3.out.below hb4
  obtain ⟨a4, c4, hv4⟩ := own_shape ho4
  subst hv4
  go_wp2_with fail
  refine (HNe.out w4 _ _ HO4.out ho4).mono ?_
  rintro e w5 ⟨rfl, hb5⟩
  have HO5 : Hid (OpS Z Y w5 s w.heap.size W1.heap.size d mv (.pointer none) n D ⟨roll, 0, 0, false⟩ S) := HO4.out.below hb5
  have hs35 : w3.heap.size ≤ w5.heap.size := by have := hb4.size; have := hb5.size; omega
  have HB5 : Hid (Below w.heap.size w w5 ∧ w.heap.size + 2 ≤ w3.heap.size) := ⟨belowN (belowN (belowN HB2.out.1 hb3) hb4) hb5, by have := hb3.size; have := HB2.out.2; omega⟩
  have ho5 : w5.ownsRow w3.heap.size 3 1 (.slice a4 k c4) k (cellsI (numsI (List.range' 1 k))) := own_below ho4 hb5
  obtain ⟨a6, c6, hv6, _, _, hA⟩ := own_cells ho5
  injection hv6 with hv7 _ hv8
  subst hv7
  subst hv8
  have HAt : Hid (∀ t, t < k → ∃ g, a4 = some ⟨g, 0, none⟩ ∧ w3.heap.size ≤ g ∧ w5.cell? ⟨g, t, none⟩ = some (.int .i64 ((t + 1 : Nat) : Int))) := fun t ht => by
    obtain ⟨g, rfl, _, hc⟩ := hA (by omega)
    refine ⟨g, rfl, (ho5.lt g rfl).1, hc t _ ?_⟩
    have : (List.range' 1 k)[t]? = some (1 + t) := by rw [List.getElem?_range' ht]; simp
    unfold cellsI numsI
    rw [List.getElem?_map, List.getElem?_map, this]
    show some (Value.int .i64 ((1 + t : Nat) : Int)) = _
    rw [Nat.add_comm 1 t]
  clear HLi HNu HNe HO2 HO3 HO4 ho3 ho4 hb3 hb4 hb5 ho5 hA HB2 HB1 hn hc0 hc1 hr hkf hk hk2 hw5 hs35
  go_upto_region 4 with (fail)
  go_loopw [28] (fun i wr => ∃ (t : Nat) (Y' : Nat → Prop) (mv' mg' : Value) (n' : Nat) (J : Jn), t ≤ k ∧ i = .int .i64 t ∧ n' ≤ n + (allB B t).length + t ∧ J.num = t ∧ J.roll = roll ∧ Hid ((1 ≤ t → J.size = (fl D.files (F t)).d.size ∧ (J.cut = true ↔ T t ≠ [])) ∧ J.size ≤ 100000) ∧ Hid (OpS Z Y' wr s w.heap.size W1.heap.size d mv' mg' n' D J (runS S (allB B t))) ∧ Hid (∀ q, Y' q → Y q ∨ w5.heap.size ≤ q) ∧ Hid (Tr (fun q => q = w.heap.size ∨ q = W1.heap.size ∨ Y q) w5 wr)) (fun i _ => k - (intOf i).toNat)
  case atStart => exact ⟨0, Y, mv, .pointer none, n, ⟨roll, 0, 0, false⟩, Nat.zero_le _, rfl, Nat.le_refl _, rfl, rfl, ⟨fun h => absurd h (by omega), Nat.zero_le _⟩, HO5.out, fun q hq => .inl hq, Tr.refl _ _⟩
  case round =>
    obtain ⟨t, Y', mv', mg', n', J, ht, rfl, hn', hjn, hjr, HSz, HO, HY, HT⟩ := hrel
    by_cases hlt : t < k
    · have q1 : (t : Int) < (k : Int) := by omega
      have q0 : (0 : Int) ≤ (t : Int) := by omega
      obtain ⟨g, rfl, hg3, e0⟩ := HAt.out t hlt
      have e1 : wr.cell? ⟨g, t, none⟩ = some (.int .i64 ((t + 1 : Nat) : Int)) := cell_tr HT.out e0 (fun hz => by
        have := HB5.out.2
        have hz : g = w.heap.size ∨ g = W1.heap.size ∨ Y g := hz
        have hw1 := HP1.out
        rcases hz with hz | hz | hz
        · omega
        · omega
        · have := HYl.out g hz; omega)
      have hrd := HRd.out wr t Y' mv' mg' n' J hlt hn' HO.out hjn hjr
      have HT5 : Hid (∀ q, Y' q → Y q ∨ w5.heap.size ≤ q) := HY.out
      have hs5 : w5.heap.size ≤ wr.heap.size := HT.out.size
      have HT6 : Hid (Tr (fun q => q = w.heap.size ∨ q = W1.heap.size ∨ Y q) w5 wr) := HT.out
      obtain ⟨u, hu⟩ : ∃ u : Int, ((t + 1 : Nat) : Int) = u := ⟨_, rfl⟩
      rw [hu] at e1 hrd
      clear HSz HO HY HT HRd HAt e0 HSy HJJ hu hg3
      have HN0 : Hid (n' ≤ n + (allB B t).length + t ∧ J.num = t ∧ J.roll = roll) := ⟨hn', hjn, hjr⟩
      clear hn' hjn hjr ht
      have HL0 : Hid (t < k) := hlt
      clear hlt
      go_wp2_with fail
      refine hrd.mono ?_
      rintro e w6 ⟨rfl, J', j1, j2, j3, j4, ⟨Y2, mv2, mg2, n2, hn2, h2, hy2⟩, t2⟩
      have HX : Hid (OpS Z Y2 w6 s w.heap.size W1.heap.size d mv2 mg2 n2 D J' (runS S (allB B (t + 1))) ∧ (∀ q, Y2 q → Y q ∨ w5.heap.size ≤ q) ∧ Tr (fun q => q = w.heap.size ∨ q = W1.heap.size ∨ Y q) w5 w6 ∧ ((1 ≤ t + 1 → J'.size = (fl D.files (F (t + 1))).d.size ∧ (J'.cut = true ↔ T (t + 1) ≠ [])) ∧ J'.size ≤ 100000)) := by
        refine ⟨h2, fun q hq => ?_, HT6.out.trans' t2 (fun q hq hz => ?_), ⟨fun _ => ⟨j3, j4⟩, by rw [j3]; exact HBd.out (t + 1) (by omega) HL0.out⟩⟩
        · rcases hy2 q hq with h | h
          · exact HT5.out q h
          · exact .inr (by omega)
        · rcases hz with hz | hz | hz
          · exact .inl hz
          · exact .inr (.inl hz)
          · rcases HT5.out q hz with h | h
            · exact .inr (.inr h)
            · omega
      have HJ2 : Hid (J'.num = t + 1 ∧ J'.roll = roll ∧ n2 ≤ n + (allB B (t + 1)).length + (t + 1)) := ⟨j1, j2, hn2⟩
      clear h2 hy2 t2 HT5 HT6 hrd j1 j2 j3 j4 hn2 e1
      go_wp2
      go_roundw
      case rel => exact ⟨t + 1, Y2, mv2, mg2, n2, J', HL0.out, by go_num, HJ2.out.2.2, HJ2.out.1, HJ2.out.2.1, HX.out.2.2.2, HX.out.1, HX.out.2.1, HX.out.2.2.1⟩
      case measure => have := HL0.out; simp [intOf]; omega
    · have htk : t = k := by omega
      subst htk
      have q1 : ¬ (t : Int) < (t : Int) := by omega
      have hops := HO.out
      rw [HB0.out] at hops
      have hsy := HSy.out wr Y' mv' mg' n' J hops hjn
      have hJJ := HJJ.out J hjn HSz.out.1
      have hszz := HSz.out.2
      have HTz : Hid (Tr (fun q => Z q ∨ Y q) w wr) := ((below_tr HB5.out.1 _).trans' HT.out (fun q hq hz => by
        have hw1 := HP1.out
        rcases hz with hz | hz | hz
        · omega
        · omega
        · exact .inr hz))
      have HEnd : Hid (∀ X, OpS (Yn Z wr.heap.size X.heap.size) Y' X s w.heap.size W1.heap.size d mv' mg' n' (jsync D J).2 J (runS S ms) → Tr (Zn Z wr.heap.size) wr X → ∀ e, e = .returned (if (jsync D J).1 = true then .tuple #[.pointer (some ⟨w.heap.size, 0, none⟩), .bool true] else .tuple #[.pointer none, .bool false]) → JOpenE Z Y w X e s d (n + ms.length + t) D ms roll hd (runS S ms)) := fun X h1 t1 e he => by
        have hsz : w.heap.size ≤ wr.heap.size := HTz.out.size
        refine ⟨_, _, _, Y', mv', mg', n', J, he, Nat.le_refl _, by rw [HB0.out] at hn'; exact hn', hjr, hszz, hJJ, h1, fun q hq => hq.imp (fun h => h) (fun h => by omega), fun q hq => ?_, HTz.out.trans' t1 (fun q hq hz => ?_)⟩
        · rcases HY.out q hq with h | h
          · exact .inl h
          · have := HB5.out.1.size; exact .inr (by omega)
        · rcases hz with hz | hz
          · exact .inl hz
          · omega
      obtain ⟨b, hb⟩ : ∃ b, (jsync D J).1 = b := ⟨_, rfl⟩
      rw [hb] at hsy HEnd
      clear HO HY HT HSz HRd HAt HSy HJJ hops hJJ hb hn' hszz
      go_wp2_with fail
      refine hsy.mono ?_
      rintro e w6 ⟨rfl, h6, t6⟩
      have HF := HEnd.out w6 h6 t6
      cases b
      · have HG : Hid (JOpenE Z Y w w6 (.returned (.tuple #[.pointer none, .bool false])) s d (n + ms.length + t) D ms roll hd (runS S ms)) := HF _ rfl
        clear HF HEnd h6 t6 hsy
        go_wp2
        go_ret2
        exact HG.out
      · have HG : Hid (JOpenE Z Y w w6 (.returned (.tuple #[.pointer (some ⟨w.heap.size, 0, none⟩), .bool true])) s d (n + ms.length + t) D ms roll hd (runS S ms)) := HF _ rfl
        clear HF HEnd h6 t6 hsy
        go_wp2
        go_ret2
        exact HG.out
end Go.Proofs.YtilkdeghknjjhaaGreatDoor
