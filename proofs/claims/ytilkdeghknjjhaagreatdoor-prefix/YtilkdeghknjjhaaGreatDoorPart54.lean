/- The store: Open, on a disk that is not dead. -/
import Derived.Test.YtilkdeghknjjhaaGreatDoorPart52
import Derived.Test.YtilkdeghknjjhaaGreatDoorPart48
import Derived.Test.YtilkdeghknjjhaaGreatDoorPart29
import Derived.Test.YtilkdeghknjjhaaGreatDoorPart50
import Derived.Test.YtilkdeghknjjhaaGreatDoorPart53
import Derived.Test.YtilkdeghknjjhaaGreatDoorPart49
namespace Go.Proofs.YtilkdeghknjjhaaGreatDoor
open Go.RowKit M Go.Maps
set_option linter.unusedVariables false

/-- What Open answers: a store, with all that is on the disk; or that the disk has failed. -/
def OpenE (Z : Nat → Prop) (w w' : World) (e : Ending) (d n : Nat) (D : Dk) (nd ev : Int) (roll : Nat) (ms : List Mt) (hd : Nat) : Prop :=
  (∃ s j Z' Y' mv n' D' J S', e = .returned (.tuple #[.pointer (some ⟨s, 0, none⟩), .int .i64 0]) ∧ Sto Z' Y' w' s j d mv n' D' J S' ∧ SI nd D' J S' ms ms.length ∧ n' ≤ n ∧ S'.every = ev ∧ J.roll = roll ∧ D'.failed = D.failed ∧ D'.cap = D.cap ∧ (∀ k, D.Bud (k + 2) → D'.Bud k) ∧
    (∀ k, Z' k → Z k ∨ w.heap.size ≤ k) ∧ (∀ k, Y' k → w.heap.size ≤ k) ∧ w.heap.size ≤ j ∧ Tr Z w w' ∧ ∃ J0, D' = (jsync D J0).2) ∨
  (∃ D' Z', e = .returned (.tuple #[.pointer none, .int .i64 7]) ∧ DiskAt Z' w' d D' ∧ DI nd D' ms hd ∧ D.failed < D'.failed ∧ D'.cap = D.cap ∧ (∀ k, D.Bud (k + 2) → D'.Bud k) ∧ (∀ k, Z' k → Z k ∨ w.heap.size ≤ k) ∧ (∀ k, Z' k → k < w'.heap.size) ∧ Vars w' ∧ Tr Z w w' ∧ ∃ J0, D' = (jsync D J0).2)
def stNew (nd ev ro : Int) : St := ⟨nd, ev, ro, zM, 0, 0, false⟩
theorem OpS.sto {Z Y : Nat → Prop} {w : World} {s j p d : Nat} {mv mg : Value} {n : Nat} {D : Dk} {J : Jn} {S : St} (h : OpS Z Y w s j p d mv mg n D J S) :
    Sto Z Y ((w.setCell ⟨s, 4, none⟩ (.pointer (some ⟨j, 0, none⟩))).setCell ⟨s, 7, none⟩ (.int .i64 S.cnt)) s j d mv n D J { S with held := S.cnt } := by
  have a1 := h.st.setS (S' := S) (dv' := .pointer (some ⟨d, 0, none⟩)) (jv' := .pointer (some ⟨j, 0, none⟩)) 4 (.pointer (some ⟨j, 0, none⟩)) rfl rfl
  have a2 := a1.setS (S' := { S with held := S.cnt }) (dv' := .pointer (some ⟨d, 0, none⟩)) (jv' := .pointer (some ⟨j, 0, none⟩)) 7 (.int .i64 S.cnt) rfl rfl
  have t : Tr (One s) w ((w.setCell ⟨s, 4, none⟩ (.pointer (some ⟨j, 0, none⟩))).setCell ⟨s, 7, none⟩ (.int .i64 S.cnt)) := ((Tr.refl _ w).set1 4 _).set1 7 _
  have hz : ¬ Z s := fun hh => h.dj s hh h.st.ys
  refine ⟨⟨h.side.dk.tr t (fun k hk (e : k = s) => hz (e ▸ hk)), h.side.jn.tr t (fun (e : j = s) => h.yj (e ▸ h.st.ys)), h.side.vs.tr t (fun k hk (e : k = s) => (h.v5 k hk).2 (e ▸ h.st.ys))⟩, a2, h.zj, h.yj, h.dj, fun k hk => ?_, h.v5, h.j5⟩
  simp [World.setCell]; exact h.lz k hk

set_option maxRecDepth 20000 in
set_option maxHeartbeats 1600000 in
theorem open_live (Z : Nat → Prop) (d n : Nat) (D : Dk) (nd ev : Int) (roll : Nat) (ms : List Mt) (k sz : Nat) (cut sy : Bool) (hd : Nat) (w : World) (h : DiskAt Z w d D) (hvs : Vars w) (hlz : ∀ k, Z k → k < w.heap.size) (hv5 : ∀ k, k < 5 → ¬ Z k) (hwf : D.WF) (hbu : D.Bud 2) (hl : D.life ≠ 0) (hJ : JD D ms k sz cut sy hd) (hhd : hd ≤ ms.length) (hg : GoodM nd zM 0 ms) (ho : optOK nd ev roll = true) (hkf : D.files.length ≤ 100000000)
    (hn : ms.length + k ≤ n) (hn2 : n < 10000000000) :
    Calls Tryz.prog 48 #[.pointer (some ⟨d, 0, none⟩), .agg #[.int .i64 nd, .int .i64 ev, .int .i64 roll]] w fun e w' => OpenE Z w w' e d n D nd ev roll ms hd := by
  have hw5 := hvs.five
  have hro : roll ≤ 100000 := by unfold optOK at ho; simp at ho; omega
  obtain ⟨W1, hW1, HB1, Hrow, HB1s⟩ : ∃ W1, w.alloc (.cells #[.int .i64 nd, .int .i64 ev, .int .i64 roll] 23) = W1 ∧ Hid (Below w.heap.size w W1) ∧ Hid (W1.heap[w.heap.size]? = some (.cells #[.int .i64 nd, .int .i64 ev, .int .i64 roll] 23 (0, 0))) ∧ Hid (W1.heap.size = w.heap.size + 1) :=
    ⟨_, rfl, (Below.refl _ _).alloc (Nat.le_refl _) _, heap_alloc_new w _, by show _ = _; simp⟩
  have HAr : Hid (∀ X, Calls Tryz.prog 84 #[.agg #[.int .i64 nd, .int .i64 ev, .int .i64 roll]] X fun e w' => e = .returned (.bool true) ∧ Below X.heap.size X w') := fun X => by
    have := areOptions_any nd ev roll X
    rw [ho] at this; exact this
  have HX : Hid (∀ X, Below W1.heap.size W1 X → X.cell? ⟨w.heap.size, 0, none⟩ = some (.int .i64 nd) ∧ X.cell? ⟨w.heap.size, 1, none⟩ = some (.int .i64 ev) ∧ X.cell? ⟨w.heap.size, 2, none⟩ = some (.int .i64 roll)) := fun X hX => by
    have hr := heap_later hX Hrow.out
    exact ⟨by rw [cell_of_row _ _ _ _ _ _ hr]; rfl, by rw [cell_of_row _ _ _ _ _ _ hr]; rfl, by rw [cell_of_row _ _ _ _ _ _ hr]; rfl⟩
  have HOp : Hid (∀ X, Below w.heap.size w X → Calls Tryz.prog 85 #[.pointer (some ⟨d, 0, none⟩), .int .i64 roll, .func (.func 86) #[.pointer (some ⟨X.heap.size, 0, none⟩)] #[], .func (.func 87) #[.pointer (some ⟨X.heap.size, 0, none⟩)] #[]] (X.alloc (.cells #[.pointer (some ⟨d, 0, none⟩), .int .i64 nd, .int .i64 ev, .int .i64 roll, .pointer none, .map none, .int .i64 0, .int .i64 0, .bool false] 86)) fun e w' =>
      JOpenE Z (One X.heap.size) (X.alloc (.cells #[.pointer (some ⟨d, 0, none⟩), .int .i64 nd, .int .i64 ev, .int .i64 roll, .pointer none, .map none, .int .i64 0, .int .i64 0, .bool false] 86)) w' e X.heap.size d (0 + ms.length + k) D ms roll hd (runS (stNew nd ev roll) ms)) := fun X hX => by
    have hb := belowA (o := .cells #[.pointer (some ⟨d, 0, none⟩), .int .i64 nd, .int .i64 ev, .int .i64 roll, .pointer none, .map none, .int .i64 0, .int .i64 0, .bool false] 86) hX
    have hsz : (X.alloc (.cells #[.pointer (some ⟨d, 0, none⟩), .int .i64 nd, .int .i64 ev, .int .i64 roll, .pointer none, .map none, .int .i64 0, .int .i64 0, .bool false] 86)).heap.size = X.heap.size + 1 := by simp
    have hXs := hX.size
    refine jOpen_live Z (One X.heap.size) X.heap.size d (.map none) 0 D (stNew nd ev roll) roll nd ms k sz cut sy hd _ ⟨h.below hb, ⟨fun q (e : q = X.heap.size) => by omega, rfl, fun q hq => by simp [mapBlock] at hq, heap_alloc_new X _, ⟨fun _ => none, .inl ⟨rfl, fun _ => rfl⟩, fun q => ⟨fun _ => rfl, fun v hv => by cases hv⟩⟩⟩, hvs.below hb, fun q hz (e : q = X.heap.size) => ?_, fun q hq => ?_, fun q hq => ⟨hv5 q hq, fun (e : q = X.heap.size) => ?_⟩⟩ hwf hbu hl hJ hg hro hkf (by omega) (by show (0 : Int) ≤ 0; omega) (by show (0 : Int) + _ ≤ _; omega)
    · have := hlz q hz; omega
    · have := hlz q hq; omega
    · omega
  have HRun : Hid (runS (stNew nd ev roll) ms = { stNew nd ev roll with M := runMt zM ms, cnt := 0 + ms.length }) := (good_ok ms (stNew nd ev roll) hg).2
  have HRe : Hid (∀ X w' e, Below w.heap.size w X → JOpenE Z (One X.heap.size) (X.alloc (.cells #[.pointer (some ⟨d, 0, none⟩), .int .i64 nd, .int .i64 ev, .int .i64 roll, .pointer none, .map none, .int .i64 0, .int .i64 0, .bool false] 86)) w' e X.heap.size d (0 + ms.length + k) D ms roll hd (runS (stNew nd ev roll) ms) →
      (∃ j, e = .returned (.tuple #[.pointer (some ⟨j, 0, none⟩), .bool true]) ∧ w'.cell? ⟨X.heap.size, 4, none⟩ = some (.pointer none) ∧ w'.cell? ⟨X.heap.size, 6, none⟩ = some (.int .i64 ms.length) ∧ w'.cell? ⟨X.heap.size, 7, none⟩ = some (.int .i64 0) ∧ (∀ o, w'.frozen? ⟨X.heap.size, o, none⟩ = false) ∧ OpenE Z w ((w'.setCell ⟨X.heap.size, 4, none⟩ (.pointer (some ⟨j, 0, none⟩))).setCell ⟨X.heap.size, 7, none⟩ (.int .i64 ms.length)) (.returned (.tuple #[.pointer (some ⟨X.heap.size, 0, none⟩), .int .i64 0])) d n D nd ev roll ms hd) ∨
      (e = .returned (.tuple #[.pointer none, .bool false]) ∧ OpenE Z w w' (.returned (.tuple #[.pointer none, .int .i64 7])) d n D nd ev roll ms hd)) := fun X w' e hX hE => by
    obtain ⟨j, p, Z', Y', mv', mg', n', J, he, hjw, hn', hjr, hjz, hjd, hops, hz, hy, t⟩ := hE
    have hXs := hX.size
    have hb := belowA (o := .cells #[.pointer (some ⟨d, 0, none⟩), .int .i64 nd, .int .i64 ev, .int .i64 roll, .pointer none, .map none, .int .i64 0, .int .i64 0, .bool false] 86) hX
    have hsz : (X.alloc (.cells #[.pointer (some ⟨d, 0, none⟩), .int .i64 nd, .int .i64 ev, .int .i64 roll, .pointer none, .map none, .int .i64 0, .int .i64 0, .bool false] 86)).heap.size = X.heap.size + 1 := by simp
    rw [hsz] at hjw hz hy
    rw [HRun.out] at hops
    obtain ⟨s1, s2, s3, s4⟩ := jsync_jd hjd hwf
    have hwf' := jsync_wf hwf 0 hbu J
    have T0 : Tr Z w w' := (below_tr hb Z).trans' t (fun q hq hh => hh.elim (fun h => h) (fun (e : q = X.heap.size) => by omega))
    have hz' : ∀ q, Z' q → Z q ∨ w.heap.size ≤ q := fun q hq => (hz q hq).imp (fun h => h) (fun h => by omega)
    have hy' : ∀ q, Y' q → w.heap.size ≤ q := fun q hq => (hy q hq).elim (fun (e : q = X.heap.size) => by omega) (fun h => by omega)
    cases hbb : (jsync D J).1
    · obtain ⟨s5, s6⟩ := s2 hbb
      rw [hbb] at he
      exact .inr ⟨he, .inr ⟨(jsync D J).2, Z', rfl, hops.side.dk, ⟨hwf', hg, _, _, _, s5⟩, s6, s3, fun q hq => jsync_bud hq J, hz', hops.lz, hops.side.vs, T0, J, rfl⟩⟩
    · obtain ⟨s5, s6⟩ := s1 hbb
      rw [hbb] at he
      have hsto := hops.sto
      have hc : ((0 : Int) + (ms.length : Int)) = ms.length := by omega
      simp only [hc] at hsto
      refine .inl ⟨j, he, (hops.st.cell 4).trans rfl, ?_, (hops.st.cell 7).trans rfl, hops.st.frozen, .inl ⟨X.heap.size, j, Z', Y', mv', n', (jsync D J).2, J, _, rfl, hsto, ⟨hwf', hg, s5.less, rfl, rfl, rfl, by rw [hjr]; exact hro, rfl, Nat.le_refl _, rfl, hjz⟩, by omega, rfl, hjr, s6, s3, fun q hq => jsync_bud hq J, hz', hy', by omega, ?_, J, rfl⟩⟩
      · have := (hops.st.cell 6)
        rw [this]
        show some (Value.int .i64 (0 + (ms.length : Int))) = _
        rw [hc]
      · exact T0.trans' (((Tr.refl (One X.heap.size) w').set1 4 _).set1 7 _) (fun q hq (e : q = X.heap.size) => by omega)
  clear h hvs hlz hv5 hwf hbu hl hJ hhd hg ho hkf hn hn2 HRun hw5 hro
  go_enter Tryz.func48, Tryz.ntmps48
  go_upto_region 1 with (fail)
  clear hW1
  obtain ⟨x0, x1, x2⟩ := HX.out W1 (Below.refl _ _)
  go_wp2_with fail
  refine (HAr.out W1).mono ?_
  rintro e w2 ⟨rfl, hb2⟩
  obtain ⟨y0, y1, y2⟩ := HX.out w2 hb2
  have hb02 := belowN HB1.out hb2
  have HO := HOp.out w2 hb02
  obtain ⟨W4, hW4, HB4, HX4⟩ : ∃ W4, w2.alloc (.cells #[.pointer (some ⟨d, 0, none⟩), .int .i64 nd, .int .i64 ev, .int .i64 roll, .pointer none, .map none, .int .i64 0, .int .i64 0, .bool false] 86) = W4 ∧ Hid (Below W1.heap.size W1 W4) ∧ Hid (Below w.heap.size w w2) := ⟨_, rfl, belowA hb2, hb02⟩
  have HRx : Hid (∀ w' e, JOpenE Z (One w2.heap.size) W4 w' e w2.heap.size d (0 + ms.length + k) D ms roll hd (runS (stNew nd ev roll) ms) → _) := fun w' e hh => HRe.out w2 w' e hb02 (by rw [hW4]; exact hh)
  rw [hW4] at HO
  clear HOp HRe hb2 hb02 HAr x0 x1 x2
  go_upto_region 4 with (fail)
  clear hW4
  obtain ⟨z0, z1, z2⟩ := HX.out W4 HB4.out
  clear y0 y1 y2
  go_wp2_with fail
  refine HO.mono ?_
  intro e w5 hE
  rcases HRx.out w5 e hE with ⟨j, rfl, c4, c6, c7, fz, hF⟩ | ⟨rfl, hF⟩
  · have HF : Hid (OpenE Z w ((w5.setCell ⟨w2.heap.size, 4, none⟩ (.pointer (some ⟨j, 0, none⟩))).setCell ⟨w2.heap.size, 7, none⟩ (.int .i64 ms.length)) (.returned (.tuple #[.pointer (some ⟨w2.heap.size, 0, none⟩), .int .i64 0])) d n D nd ev roll ms hd) := hF
    clear hF hE HRx HO
    go_wp2
    go_ret2
    exact HF.out
  · have HF : Hid (OpenE Z w w5 (.returned (.tuple #[.pointer none, .int .i64 7])) d n D nd ev roll ms hd) := hF
    clear hF hE HRx HO
    go_wp2
    go_ret2
    exact HF.out
end Go.Proofs.YtilkdeghknjjhaaGreatDoor
/- Without the document's answer: pick, options, again. -/
namespace Go.Proofs.YtilkdeghknjjhaaGreatDoor
open Go.RowKit M Go.Maps
set_option linter.unusedVariables false

theorem kpick_any (c n : Int) (w : World) (h1 : -9223372036854775808 ≤ c) (h2 : c ≤ 9223372036854775807) (h3 : 1 ≤ n) (h4 : n ≤ 9223372036854775807) :
    Calls Tryz.prog 24 #[.int .i64 c, .int .i64 n] w fun e w' => e = .returned (.int .i64 (pickF c n)) ∧ w' = w := by
  by_cases hc : c < 0
  · have HP : Hid (pickF c n = (-(c + 1)) % n) := by show pickF c n = _; unfold pickF; rw [if_pos hc]
    have hq : 0 ≤ -(c + 1) := by omega
    go_enter Tryz.func24, Tryz.ntmps24
    go_wp2
    go_ret
    exact ⟨congrArg (fun q => Ending.returned (.int .i64 q)) (by rw [HP.out, ← Int.tmod_eq_emod_of_nonneg hq, Int.neg_tmod]), rfl⟩
  · have HP : Hid (pickF c n = c % n) := by show pickF c n = _; unfold pickF; rw [if_neg hc]
    have hq : 0 ≤ c := by omega
    go_enter Tryz.func24, Tryz.ntmps24
    go_wp2
    go_ret
    exact ⟨congrArg (fun q => Ending.returned (.int .i64 q)) (by rw [HP.out]), rfl⟩

theorem result_kopt (tmps : Array Value) (w : World) (g : Nat) (v1 v2 v3 : Value) (h2 : tmps.getD 2 undef = .pointer (some ⟨g, 0, none⟩)) (hg : w.heap[g]? = some (.cells #[v1, v2, v3] 23 (0, 0))) :
    (results Tryz.f22 tmps).run Tryz.prog w = .ok (.agg #[v1, v2, v3]) w := by
  have hl := run_loadVar_row (P := Tryz.prog) w g 23 23 #[v1, v2, v3] (0, 0) _ hg Tryz.underlying23 rfl infoOpt
  have h2' : tmps[2]?.getD undef = .pointer (some ⟨g, 0, none⟩) := by simpa using h2
  simp [results, Tryz.results22, h2', asAddr, hl]
theorem r64_tdiv {c : Int} (h : R64 c) (n : Int) (hn : 0 ≤ n := by decide) : R64 (c.tdiv n) := by
  have h1 := Int.natAbs_tdiv_le_natAbs c n
  obtain ⟨a, b⟩ := h
  by_cases hm : c.tdiv n = 9223372036854775808
  · exfalso
    by_cases hc : c = -9223372036854775808
    · subst hc
      have : (-9223372036854775808 : Int).tdiv n = -((9223372036854775808 : Int).tdiv n) := Int.neg_tdiv _ _
      have h3 : 0 ≤ (9223372036854775808 : Int).tdiv n := Int.tdiv_nonneg (by omega) hn
      omega
    · omega
  · constructor <;> omega
/-- The options that a raw number tells. -/
def optN (raw : Int) : Int := pickF raw 16
def optE (raw : Int) : Int := pickF (raw.tdiv 16) 4
def optR (raw : Int) : Int := 400 + pickF (raw.tdiv 64) 2000
theorem opt_rng (raw : Int) : 0 ≤ optN raw ∧ optN raw ≤ 15 ∧ 0 ≤ optE raw ∧ optE raw ≤ 3 ∧ 400 ≤ optR raw ∧ optR raw ≤ 2399 := by
  have h1 := pickF_rng raw 16 (by omega)
  have h2 := pickF_rng (raw.tdiv 16) 4 (by omega)
  have h3 := pickF_rng (raw.tdiv 64) 2000 (by omega)
  unfold optN optE optR
  omega

set_option maxRecDepth 20000 in
set_option maxHeartbeats 1600000 in
theorem options_any (raw : Int) (w : World) (h : R64 raw) :
    Calls Tryz.prog 22 #[.int .i64 raw] w fun e w' => e = .returned (.agg #[.int .i64 (optN raw), .int .i64 (optE raw), .int .i64 (optR raw)]) ∧ Below w.heap.size w w' := by
  have HP1 : Hid (∀ w', Calls Tryz.prog 24 #[.int .i64 raw, .int .i64 16] w' fun e w'' => e = .returned (.int .i64 (pickF raw 16)) ∧ w'' = w') := fun w' => kpick_any _ _ w' h.1 h.2 (by omega) (by omega)
  have HP2 : Hid (∀ w', Calls Tryz.prog 24 #[.int .i64 (raw.tdiv 16), .int .i64 4] w' fun e w'' => e = .returned (.int .i64 (pickF (raw.tdiv 16) 4)) ∧ w'' = w') := fun w' => kpick_any _ _ w' (r64_tdiv h 16).1 (r64_tdiv h 16).2 (by omega) (by omega)
  have HP3 : Hid (∀ w', Calls Tryz.prog 24 #[.int .i64 (raw.tdiv 64), .int .i64 2000] w' fun e w'' => e = .returned (.int .i64 (pickF (raw.tdiv 64) 2000)) ∧ w'' = w') := fun w' => kpick_any _ _ w' (r64_tdiv h 64).1 (r64_tdiv h 64).2 (by omega) (by omega)
  have hr1 := pickF_rng (raw.tdiv 64) 2000 (by omega)
  unfold optN optE optR
  obtain ⟨x1, hx1⟩ : ∃ x, pickF raw 16 = x := ⟨_, rfl⟩
  obtain ⟨x2, hx2⟩ : ∃ x, pickF (raw.tdiv 16) 4 = x := ⟨_, rfl⟩
  obtain ⟨x3, hx3⟩ : ∃ x, pickF (raw.tdiv 64) 2000 = x := ⟨_, rfl⟩
  rw [hx1] at HP1
  rw [hx2] at HP2
  rw [hx3] at HP3 hr1
  rw [hx1, hx2, hx3]
  obtain ⟨r0, r1⟩ := hr1
  have w64 : ∀ x, R64 x → wrap64 x = x := fun x hx => by unfold wrap64; obtain ⟨a, b⟩ := hx; omega
  have hq1 := w64 _ (r64_tdiv h 16)
  have hq2 := w64 _ (r64_tdiv h 64)
  obtain ⟨d1, hd1⟩ : ∃ x, raw.tdiv 16 = x := ⟨_, rfl⟩
  obtain ⟨d2, hd2⟩ : ∃ x, raw.tdiv 64 = x := ⟨_, rfl⟩
  rw [hd1] at HP2 hq1
  rw [hd2] at HP3 hq2
  have ho1 : Tryz.prog.info? 23 = Tryz.prog.info? 23 := rfl
  clear hx1 hx2 hx3 h w64 ho1
  go_enter Tryz.func22, Tryz.ntmps22
  go_upto_region 1 with (fail)
  obtain ⟨W, hW, hb, hg⟩ : ∃ W, w.alloc (.cells #[.int .i64 0, .int .i64 0, .int .i64 0] 23) = W ∧ Below w.heap.size w W ∧ W.heap[w.heap.size]? = some (.cells #[.int .i64 0, .int .i64 0, .int .i64 0] 23 (0, 0)) :=
    ⟨_, rfl, (Below.refl _ _).alloc (Nat.le_refl _) _, heap_alloc_new w _⟩
  rw [hW]
  clear hW
  go_wp2_with fail
  refine (HP1.out W).mono ?_
  rintro e w1 ⟨rfl, rfl⟩
  go_wp2_with fail
  refine (HP2.out w1).mono ?_
  rintro e w2 ⟨rfl, rfl⟩
  go_wp2_with fail
  refine (HP3.out w2).mono ?_
  rintro e w3 ⟨rfl, rfl⟩
  have HG : Hid (w3.heap[w.heap.size]? = some (.cells #[.int .i64 0, .int .i64 0, .int .i64 0] 23 (0, 0))) := hg
  go_wp2_with (first
    | (refine wpList_store_row rfl 23 _ _ rfl w.heap.size #[.int .i64 x1, .int .i64 x2, .int .i64 (400 + x3)] rfl rfl 23 #[.int .i64 0, .int .i64 0, .int .i64 0] HG.out infoOpt rfl (by simp [Value.oneCell']) ?_))
  refine bodyPost_ret (result_kopt _ _ w.heap.size (.int .i64 x1) (.int .i64 x2) (.int .i64 (400 + x3)) rfl (setRow_heap _ _ _ _ _ _ HG.out)) rfl ⟨rfl, below_setRow hb (Nat.le_refl _) _⟩
end Go.Proofs.YtilkdeghknjjhaaGreatDoor
/- Without the document's answer: again, on a disk that does what it should. -/
namespace Go.Proofs.YtilkdeghknjjhaaGreatDoor
open Go.RowKit M Go.Maps
set_option linter.unusedVariables false

/-- A store that was found on a copy of a disk. -/
def AgainE (w w' : World) (e : Ending) (n : Nat) (D : Dk) (nd ev : Int) (roll : Nat) (ms : List Mt) : Prop :=
  ∃ s q j Zq Yq mv n' D' J S', e = .returned (.tuple #[.pointer (some ⟨s, 0, none⟩), .pointer (some ⟨q, 0, none⟩)]) ∧ Sto Zq Yq w' s j q mv n' D' J S' ∧ SI nd D' J S' ms ms.length ∧ n' ≤ n ∧ S'.every = ev ∧ J.roll = roll ∧ D'.Sound ∧ D'.cap = D.cap ∧ (∀ k, D.Bud (k + 2) → D'.Bud k) ∧
    (∀ k, Zq k → w.heap.size ≤ k) ∧ (∀ k, Yq k → w.heap.size ≤ k) ∧ w.heap.size ≤ j ∧ Below w.heap.size w w'

set_option maxRecDepth 20000 in
set_option maxHeartbeats 1600000 in
theorem again_sound (Z : Nat → Prop) (d n : Nat) (D : Dk) (nd ev : Int) (roll : Nat) (ms : List Mt) (k sz : Nat) (cut sy : Bool) (hd : Nat) (w : World) (h : DiskAt Z w d D) (hvs : Vars w) (hwf : D.WF) (hbu : D.Bud 2) (hs : D.Sound) (hJ : JD D ms k sz cut sy hd) (hhd : hd ≤ ms.length) (hg : GoodM nd zM 0 ms) (ho : optOK nd ev roll = true) (hkf : D.files.length ≤ 100000000)
    (hn : ms.length + k ≤ n) (hn2 : n < 10000000000) :
    Calls Tryz.prog 20 #[.pointer (some ⟨d, 0, none⟩), .agg #[.int .i64 nd, .int .i64 ev, .int .i64 roll]] w fun e w' => AgainE w w' e n D nd ev roll ms := by
  have hw5 := hvs.five
  have hl0 : D.life ≠ 0 := by have := hs.l; omega
  obtain ⟨W1, hW1, HB1, Hrow⟩ : ∃ W1, w.alloc (.cells #[.int .i64 nd, .int .i64 ev, .int .i64 roll] 23) = W1 ∧ Hid (Below w.heap.size w W1) ∧ Hid (W1.heap[w.heap.size]? = some (.cells #[.int .i64 nd, .int .i64 ev, .int .i64 roll] 23 (0, 0))) :=
    ⟨_, rfl, (Below.refl _ _).alloc (Nat.le_refl _) _, heap_alloc_new w _⟩
  have HC : Hid (Calls Tryz.prog 47 #[.pointer (some ⟨d, 0, none⟩)] W1 fun e w' => ∃ q, W1.heap.size ≤ q ∧ e = .returned (.pointer (some ⟨q, 0, none⟩)) ∧ DiskAt (fun k => W1.heap.size ≤ k) w' q D ∧ Below W1.heap.size W1 w') := Copy_any Z (fun k => W1.heap.size ≤ k) d D W1 (h.below HB1.out) hwf.ok (fun k hk => hk)
  have HX : Hid (∀ X, Below W1.heap.size W1 X → X.cell? ⟨w.heap.size, 0, none⟩ = some (.int .i64 nd) ∧ X.cell? ⟨w.heap.size, 1, none⟩ = some (.int .i64 ev) ∧ X.cell? ⟨w.heap.size, 2, none⟩ = some (.int .i64 roll)) := fun X hX => by
    have hr := heap_later hX Hrow.out
    exact ⟨by rw [cell_of_row _ _ _ _ _ _ hr]; rfl, by rw [cell_of_row _ _ _ _ _ _ hr]; rfl, by rw [cell_of_row _ _ _ _ _ _ hr]; rfl⟩
  have HO : Hid (∀ X q, Below W1.heap.size W1 X → W1.heap.size ≤ q → DiskAt (fun k => W1.heap.size ≤ k) X q D → Calls Tryz.prog 48 #[.pointer (some ⟨q, 0, none⟩), .agg #[.int .i64 nd, .int .i64 ev, .int .i64 roll]] X fun e w' => ∃ s, e = .returned (.tuple #[.pointer (some ⟨s, 0, none⟩), .int .i64 0]) ∧ AgainE w w' (.returned (.tuple #[.pointer (some ⟨s, 0, none⟩), .pointer (some ⟨q, 0, none⟩)])) n D nd ev roll ms) := fun X q hX hq hD => by
    have hb := belowN HB1.out hX
    have hs1 := HB1.out.size
    refine (open_live (fun k => W1.heap.size ≤ k ∧ k < X.heap.size) q n D nd ev roll ms k sz cut sy hd X hD.close (hvs.below hb) (fun k hk => hk.2) (fun k hk hz => by omega) hwf hbu hl0 hJ hhd hg ho hkf hn hn2).mono ?_
    rintro e w' (⟨s, j, Z', Y', mv, n', D', J, S', he, h1, h2, h3, h4, h5, h6, h7, h8, h9, h10, h11, h12, J0, rfl⟩ | ⟨D', Z', he, h1, h2, h3, h4, h5, h6, h7, h8, h9, J0, rfl⟩)
    · have hXs := hX.size
      refine ⟨s, he, s, q, j, Z', Y', mv, n', _, J, S', rfl, h1, h2, h3, h4, h5, (sound_jsync hs J0).1, h7, h8, fun k hk => ?_, fun k hk => by have := h10 k hk; omega, by omega, ?_⟩
      · rcases h9 k hk with h | h <;> omega
      · exact (hb.mono (Nat.le_refl _)).trans ((h12.below (B := w.heap.size) (by omega) (fun k hk hz => by omega)))
    · have := (sound_jsync hs J0).2
      omega
  clear h hvs hwf hbu hs hJ hhd hg ho hkf hn hn2 hw5 hl0
  go_enter Tryz.func20, Tryz.ntmps20
  go_upto_region 1 with (fail)
  clear hW1
  go_wp2_with fail
  refine HC.out.mono ?_
  rintro e w2 ⟨q, hq, rfl, hD, hb2⟩
  obtain ⟨y0, y1, y2⟩ := HX.out w2 hb2
  have hop := HO.out w2 q hb2 hq hD
  clear HO HC hD hb2 hq
  go_wp2_with fail
  refine hop.mono ?_
  rintro e w3 ⟨s, rfl, hA⟩
  have HA : Hid (AgainE w w3 (.returned (.tuple #[.pointer (some ⟨s, 0, none⟩), .pointer (some ⟨q, 0, none⟩)])) n D nd ev roll ms) := hA
  clear hA hop
  go_wp2
  go_ret2
  exact HA.out
end Go.Proofs.YtilkdeghknjjhaaGreatDoor
/- A store on a disk that does what it should: its calls, in short. -/
namespace Go.Proofs.YtilkdeghknjjhaaGreatDoor
open Go.RowKit M Go.Maps
set_option linter.unusedVariables false

theorem writeF_bud {D : Dk} {k : Nat} (hw : D.WF) (hb : D.Bud (k + 5)) (J : Jn) (S : St) (t : ByteArray) : (writeF D J S t).2.1.Bud k := by
  have h1 := jappend_bud hw (k := k + 2) hb J t
  unfold writeF
  split
  · exact h1.mono (by omega)
  · split
    · exact h1.mono (by omega)
    · have := jsync_bud h1 (jappend D J t).2.2
      unfold holdF
      split <;> exact this
theorem putF_bud {D : Dk} {n : Nat} (hw : D.WF) (hb : D.Bud (n + 5)) (J : Jn) (S : St) (k v c : ByteArray) : (putF D J S k v c).2.1.Bud n := by
  unfold putF
  rw [stopF_D]
  split
  · unfold doF doG
    split
    · exact hb.mono (by omega)
    · split
      · exact hb.mono (by omega)
      · have h1 := writeF_bud hw hb J { S with M := keepM S.M (mutF S k v c).1.k ⟨(outF (S.M (mutF S k v c).1.k) (mutF S k v c).1).1, (outF (S.M (mutF S k v c).1.k) (mutF S k v c).1).2.1⟩, cnt := (mutF S k v c).1.count } (encM (mutF S k v c).1)
        unfold doW
        split <;> exact h1
  · exact hb.mono (by omega)
/-- The context that has seen nothing. -/
theorem dec_zero : Dec (bs (⟨#[0]⟩ : ByteArray)) ∧ decC (bs (⟨#[0]⟩ : ByteArray)) = [] ∧ decN (bs (⟨#[0]⟩ : ByteArray)) = 0 := by
  have hb : bs (⟨#[0]⟩ : ByteArray) = [0] := rfl
  have hh : hd ([0] : List UInt8) = 0 := rfl
  have hr : rdTo ([0] : List UInt8) 0 = [] := rfl
  have h : Dec [0] := ⟨by simp, by rw [hh]; rfl, by rw [hh, hr]; exact ⟨by simp, fun j h => absurd h (by simp)⟩⟩
  rw [hb]
  refine ⟨h, ?_, ?_⟩
  · unfold decC; rw [if_pos h, hh, hr]
  · unfold decN; rw [if_pos h]
theorem mutF_new {S : St} {x v : ByteArray} (hx : keyOK x = true) (hv : v.size ≤ 200) (hro : S.ro = false) (hc : 0 ≤ S.cnt) : mutF S x v ⟨#[0]⟩ = (⟨false, S.node, S.cnt + 1, x, [], v⟩, 0) := by
  obtain ⟨h1, h2, h3⟩ := dec_zero
  have hcov : covB [] S.node (S.cnt + 1) = false := by
    unfold covB
    rw [if_neg]
    rintro ⟨_, _, h⟩
    have : cS ([] : List (Int × Int)) S.node = 0 := rfl
    omega
  unfold mutF
  rw [if_neg (by rw [hx]; simp; exact hv), if_neg (by rw [h2, h3, hcov]; simp), if_neg (by rw [hro]; simp), h2]

/-- A store at block s, on a disk at block d that does what it should: its mutations, so many held. -/
def PX (B : Nat) (w : World) (s d : Nat) (nd ev : Int) (ms : List Mt) (hd bud n : Nat) : Prop :=
  ∃ j Z Y mv n' D J S, Sto Z Y w s j d mv n' D J S ∧ SI nd D J S ms hd ∧ D.Sound ∧ D.cap = 1152921504606846976 ∧ D.Bud (900000000 + bud) ∧ n' ≤ n ∧ S.every = ev ∧ (∀ k, Z k → B ≤ k) ∧ (∀ k, Y k → B ≤ k) ∧ B ≤ j
theorem PX.below {B : Nat} {w w' : World} {s d : Nat} {nd ev : Int} {ms : List Mt} {hd bud n : Nat} (h : PX B w s d nd ev ms hd bud n) (hb : Below w.heap.size w w') : PX B w' s d nd ev ms hd bud n := by
  obtain ⟨j, Z, Y, mv, n', D, J, S, h1, h2⟩ := h
  exact ⟨j, Z, Y, mv, n', D, J, S, h1.below hb, h2⟩
theorem PX.size {B : Nat} {w : World} {s d : Nat} {nd ev : Int} {ms : List Mt} {hd bud n : Nat} (h : PX B w s d nd ev ms hd bud n) : B ≤ w.heap.size ∧ Vars w := by
  obtain ⟨j, Z, Y, mv, n', D, J, S, h1, h2, h3, h4, h5, h6, h7, h8, h9, h10⟩ := h
  have := h1.jlt
  exact ⟨by omega, h1.side.vs⟩
theorem AgainE.px {w w' : World} {e : Ending} {n B : Nat} {D : Dk} {nd ev : Int} {roll : Nat} {ms : List Mt} {bud : Nat} (h : AgainE w w' e n D nd ev roll ms) (hc : D.cap = 1152921504606846976) (hb : D.Bud (900000000 + bud + 2)) (hB : B ≤ w.heap.size) : ∃ s q, e = .returned (.tuple #[.pointer (some ⟨s, 0, none⟩), .pointer (some ⟨q, 0, none⟩)]) ∧ PX B w' s q nd ev ms ms.length bud n ∧ Below w.heap.size w w' := by
  obtain ⟨s, q, j, Z, Y, mv, n', D', J, S, he, h1, h2, h3, h4, h5, h6, h7, h8, h9, h10, h11, h12⟩ := h
  exact ⟨s, q, he, ⟨j, Z, Y, mv, n', D', J, S, h1, h2, h6, h7.trans hc, h8 _ hb, h3, h4, fun k hk => Nat.le_trans hB (h9 k hk), fun k hk => Nat.le_trans hB (h10 k hk), Nat.le_trans hB h11⟩, h12⟩
theorem PX.counter {B : Nat} {w : World} {s d : Nat} {nd ev : Int} {ms : List Mt} {hd bud n : Nat} (h : PX B w s d nd ev ms hd bud n) :
    Calls Tryz.prog 27 #[.pointer (some ⟨s, 0, none⟩)] w fun e w' => e = .returned (.int .i64 ms.length) ∧ w' = w := by
  obtain ⟨j, Z, Y, mv, n', D, J, S, h1, h2, _⟩ := h
  have := counter_any Y s _ _ mv n' S w h1.st
  rw [h2.cnt] at this
  exact this
theorem PX.keys {B : Nat} {w : World} {s d : Nat} {nd ev : Int} {ms : List Mt} {hd bud n : Nat} (h : PX B w s d nd ev ms hd bud n) (hn : n ≤ 1000000000) :
    Calls Tryz.prog 28 #[.pointer (some ⟨s, 0, none⟩)] w fun e w' => ∃ v ks, e = .returned v ∧ StKeys (runMt zM ms) ks ∧ OwnX w' w.heap.size v ks ∧ Below w.heap.size w w' := by
  obtain ⟨j, Z, Y, mv, n', D, J, S, h1, h2, h3, h4, h5, h6, _⟩ := h
  have := skeys_any Y s _ _ mv n' S w h1.st (by omega)
  rw [h2.M] at this
  exact this
theorem PX.get {B : Nat} {w : World} {s d : Nat} {nd ev : Int} {ms : List Mt} {hd bud n : Nat} (h : PX B w s d nd ev ms hd bud n) (key : ByteArray) (hk : key.size ≤ maxLen) (h6 : (runMt zM ms key).L.length ≤ 6) :
    Calls Tryz.prog 29 #[.pointer (some ⟨s, 0, none⟩), .string key] w fun e w' => GetEnd key (runMt zM ms key) w.heap.size e w' ∧ Below w.heap.size w w' := by
  obtain ⟨j, Z, Y, mv, n', D, J, S, h1, h2, h3, _⟩ := h
  have hdl : (D.life == 0) = false := by have := h3.l; simp; omega
  refine (sget_any Z Y s j d mv n' D J S key w h1 hk (by rw [h2.M]; exact h6)).mono ?_
  rintro e w' ⟨hG, hb⟩
  refine ⟨?_, hb⟩
  rw [hdl, h2.M] at hG
  rcases hG with ⟨_, hG⟩ | ⟨_, hG, _⟩
  · exact hG
  · cases hG
theorem PX.put {B : Nat} {w : World} {s d : Nat} {nd ev : Int} {ms : List Mt} {hd bud n : Nat} (h : PX B w s d nd ev ms hd (bud + 5) n) (hn : n < 1000000000) (x v : ByteArray) (hx : keyOK x = true) (hv : v.size ≤ 200) (hM : runMt zM ms x = Se.nil) (h0 : 0 ≤ nd) (h1 : nd ≤ 15) (hl : ms.length ≤ 1000000) :
    Calls Tryz.prog 25 #[.pointer (some ⟨s, 0, none⟩), .string x, .string v, .string ⟨#[0]⟩] w fun e w' => e = .returned (.int .i64 0) ∧ PX B w' s d nd ev (ms ++ [⟨false, nd, (ms.length : Int) + 1, x, [], v⟩]) (heldE ev ms.length hd) bud (n + 2) ∧ Below B w w' := by
  obtain ⟨j, Z, Y, mv, n', D, J, S, g1, g2, g3, g4, g5, g6, g7, g8, g9, g10⟩ := h
  have hjl := g1.jlt
  have hfl : D.files.length ≤ 100000000 := by have := g5.l; omega
  have hnum : J.num < 900000000 := by have := JD.kf g2.jd; omega
  have hmut := mutF_new (S := S) hx hv g2.ro (by rw [g2.cnt]; omega)
  have hxs : x.size ≤ 40 := by unfold keyOK at hx; simp at hx; omega
  have hSM : S.M x = Se.nil := by rw [g2.M]; exact hM
  have hcn := g2.cnt
  have hout : outF Se.nil ⟨false, nd, (ms.length : Int) + 1, x, [], v⟩ = ([(nd, (ms.length : Int) + 1)], [⟨nd, (ms.length : Int) + 1, v⟩], 0) := by
    unfold outF
    rw [if_neg (by simp)]
    show updF [] [] [] nd ((ms.length : Int) + 1) v = _
    exact upd_new ⟨h0, h1, by omega, by omega⟩ hv
  have hm : MtAt nd S.M S.cnt ⟨false, nd, (ms.length : Int) + 1, x, [], v⟩ := by
    refine ⟨⟨clk_one ⟨h0, h1, by show (1 : Int) ≤ (ms.length : Int) + 1; omega, by show (ms.length : Int) + 1 ≤ _; omega⟩, ⟨by simp, fun j h => absurd h (by simp)⟩, by show x.size ≤ 255; omega, by show v.size ≤ 255; omega⟩, rfl, by rw [hcn], hx, ?_⟩
    show (outF (S.M x) _).2.2 = 0
    rw [hSM, hout]
  rw [g2.node, hcn] at hmut
  have hroom : 4000 ≤ D.cap - D.bytes := by have := JD.bytes_le g2.jd hfl; rw [g4]; omega
  obtain ⟨p1, p2, p3, p4, p5⟩ := put_done (k := x) (v := v) (c := ⟨#[0]⟩) (n := 900000000 + bud) g2 g3 g5 (by omega) hroom (by rw [hmut]) (by rw [hmut]; exact hm)
  have pb := putF_bud (n := 900000000 + bud) g2.wf g5 J S x v ⟨#[0]⟩
  rw [hmut] at p2
  refine (sput_any Z Y s j d mv n' D J S x v ⟨#[0]⟩ w g1 g2.wf (fun m hk hv' => jappend_wf g2.jd g2.wf (g5.mono (by omega)) hnum _ (encM_size m hk hv')) (g5.mono (by omega)) hnum (by have := g2.sz; omega) (by have := g2.roll; omega) (by omega) (by omega) (by have : (⟨#[0]⟩ : ByteArray).size = 1 := rfl; omega) (by omega) (by rw [g2.held]; omega) (by rw [g2.held, hcn]; have := g2.hle; omega) (by rw [hcn]; omega) (by rw [hSM]; simp [Se.nil])).mono ?_
  rintro e w' ⟨he, ⟨Z', Y', mv', k1, k2, k3⟩, k4⟩
  rw [p1] at he
  rw [g7] at p2
  refine ⟨he, ⟨j, Z', Y', mv', n' + 2, _, _, _, k1, p2, p4, p3.trans g4, pb, by omega, p5.trans g7, fun k hk => ?_, fun k hk => ?_, g10⟩, k4.below (by omega) (fun k hk hz => ?_)⟩
  · rcases k2 k hk with h | h
    · exact g8 k h
    · omega
  · rcases k3 k hk with h | h
    · exact g9 k h
    · omega
  · rcases hz with hz | hz | hz
    · have := g8 k hz; omega
    · have := g9 k hz; omega
    · omega
/-- The disk behind a crash. -/
theorem PX.crash {B : Nat} {w : World} {s d : Nat} {nd ev : Int} {ms : List Mt} {hd bud n : Nat} (h : PX B w s d nd ev ms hd bud n) (v : Value) (keep : List Int) (hk : RdI w v keep) (hvz : InZ (fun k => k < B) v) (hk64 : In64 keep) (hkl : keep.length ≤ 1000000000000000) :
    Calls Tryz.prog 16 #[.pointer (some ⟨d, 0, none⟩), v] w fun e w' => e = .returned (.tuple #[]) ∧ Below B w w' ∧ ∃ Z' D' ms' k' sz' cut', DiskAt Z' w' d D' ∧ Vars w' ∧ D'.WF ∧ D'.Sound ∧ D'.cap = 1152921504606846976 ∧ D'.Bud (900000000 + bud) ∧ JD D' ms' k' sz' cut' true ms'.length ∧ ms' <+: ms ∧ hd ≤ ms'.length ∧ GoodM nd zM 0 ms' ∧ D'.files.length ≤ 100000000 := by
  obtain ⟨j, Z, Y, mv, n', D, J, S, g1, g2, g3, g4, g5, g6, g7, g8, g9, g10⟩ := h
  have hjl := g1.jlt
  have hfl : D.files.length ≤ 100000000 := by have := g5.l; omega
  have hkf := JD.kf g2.jd
  obtain ⟨o1, o2, o3⟩ := g1.open_
  obtain ⟨c1, c2, c3, c4, c5, c6⟩ := g2.jd.crash_ok g2.wf g5 hfl keep
  obtain ⟨ms', k', sz', cut', j1, j2, j3, j4⟩ := g2.jd.crash (by omega) keep
  refine (Crash_any (Zn Z w.heap.size) d D v keep w o1.dk c1 o3 hk (fun k hk' hz => ?_) hk64 hkl).mono ?_
  · have := hvz k hk'
    have : k < B := this
    rcases hz with hz | hz
    · have := g8 k hz; omega
    · omega
  · rintro e w' ⟨he, hD, t⟩
    have hbw : Below B w w' := t.below (by omega) (fun k hk' hz => by
      rcases hz with hz | hz
      · have := g8 k hz; omega
      · omega)
    refine ⟨he, hbw, _, _, ms', k', sz', cut', hD, ?_, c2, c4, c5.trans g4, c3, j1, j2, j3, good_prefix g2.good j2, by rw [c6]; exact hfl⟩
    refine o1.vs.tr t (fun k hk' hz => ?_)
    rcases hz with hz | hz
    · exact (g1.v5 k hk').1 hz
    · have := g1.side.vs.five; omega
end Go.Proofs.YtilkdeghknjjhaaGreatDoor
