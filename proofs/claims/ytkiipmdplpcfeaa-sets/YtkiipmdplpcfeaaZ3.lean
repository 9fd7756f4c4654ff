/- isSet. -/
import Derived.Test.YtkiipmdplpcfeaaZ2
import Derived.WalkKit
import Derived.WalkSpells
import Derived.WalkLawsBesides
import Derived.Deep.QuietTactic
import Derived.BigQuiet
import Derived.Lib.QuietBelow
namespace Go.Proofs.Ytkiipmdplpcfeaa
open Go.RowKit Go.Sort M
set_option linter.unusedVariables false

/-- The first values of a list are in order, and their dots are seen. -/
def UpS (c : List (Int × Int)) (l : List Sb) (m : Nat) : Prop := ∀ k, k < m → Dot (sb l k).n (sb l k).c ∧ (sb l k).c ≤ cS c (sb l k).n ∧ (sb l k).v.size ≤ 200 ∧ (0 < k → cd (sb l (k - 1)) (sb l k) < 0)
def SetOK (c : List (Int × Int)) (l : List Sb) : Prop := Clk c ∧ l.length ≤ 6 ∧ UpS c l l.length
theorem UpS.succ {c : List (Int × Int)} {l : List Sb} {m : Nat} (h : UpS c l m) (h1 : Dot (sb l m).n (sb l m).c) (h2 : (sb l m).c ≤ cS c (sb l m).n) (h3 : (sb l m).v.size ≤ 200) (h4 : 0 < m → cd (sb l (m - 1)) (sb l m) < 0) : UpS c l (m + 1) := by
  intro k hk
  by_cases e : k = m
  · subst e; exact ⟨h1, h2, h3, h4⟩
  · exact h k (by omega)
def BoolEnd (P : Prop) (w : World) (e : Ending) (w' : World) : Prop := ∃ r, e = .returned (.bool r) ∧ (r = true ↔ P) ∧ Below w.heap.size w w'
theorem clk_us' {l : List (Int × Int)} (h : Clk l) : US l := ((clk_iff l).1 h).2
theorem BoolEnd.no {P : Prop} {w w' : World} (h : ¬ P) (hb : Below w.heap.size w w') : BoolEnd P w (.returned (.bool false)) w' := ⟨false, rfl, by simp [h], hb⟩
theorem BoolEnd.yes {P : Prop} {w w' : World} (h : P) (hb : Below w.heap.size w w') : BoolEnd P w (.returned (.bool true)) w' := ⟨true, rfl, by simp [h], hb⟩

set_option maxRecDepth 40000 in
set_option maxHeartbeats 1600000 in
theorem isSet_any (vc v : Value) (c : List (Int × Int)) (l : List Sb) (w : World) (hrc : Rd w vc c) (hrd : RdS w v l) :
    Calls Try.prog 46 #[.agg #[vc, v]] w fun e w' => BoolEnd (SetOK c l) w e w' := by
  obtain ⟨a, cap, rfl⟩ := hrd.shape
  go_enter Try.func46, Try.ntmps46
  go_wp2_with fail
  obtain ⟨W, hW, hb, t0, t1⟩ : ∃ W, (w.alloc (.cells #[vc, .slice a l.length cap] 38)) = W ∧ Below w.heap.size w W ∧
      W.cell? ⟨w.heap.size, 0, none⟩ = some vc ∧ W.cell? ⟨w.heap.size, 1, none⟩ = some (.slice a l.length cap) :=
    ⟨_, rfl, (Below.refl _ _).alloc (Nat.le_refl _) _, by simp [go_sem], by simp [go_sem]⟩
  rw [hW]
  refine (isClock_any vc c W (hrc.below hb)).mono ?_
  rintro e w1 ⟨r, rfl, hr, hb2⟩
  have hb1 : Below w.heap.size w w1 := hb.trans (hb2.mono hb.size)
  have e0 := cell_later hb2 t0
  have e1 := cell_later hb2 t1
  have hrd1 := hrd.below hb1
  have hrc1 := hrc.below hb1
  have hs1 := hb1.size
  clear t0 t1 hW hb hb2 hrc hrd
  cases r
  · have HN : Hid (¬ SetOK c l) := fun h => Bool.noConfusion (hr.2 h.1)
    clear hr hrd1 hrc1
    go_wp2
    go_ret
    exact BoolEnd.no HN.out hb1
  have hk : Clk c := hr.1 rfl
  have HK : Hid (Clk c) := hk
  clear hr hk
  rcases Nat.lt_or_ge 6 l.length with h6 | h6
  · have h6' : (6 : Int) < (l.length : Int) := by omega
    have HN : Hid (¬ SetOK c l) := fun h => Nat.not_le_of_lt h6 h.2.1
    clear hrd1 hrc1
    go_wp2
    go_ret
    exact BoolEnd.no HN.out hb1
  have h6' : ¬ (6 : Int) < (l.length : Int) := by omega
  have h7 : (l.length : Int) ≤ 6 := by omega
  obtain ⟨a', cap', hv, _, _, hA⟩ := hrd1
  obtain ⟨rfl, -, rfl⟩ : a = a' ∧ l.length = l.length ∧ cap = cap' := by simpa using hv
  clear hv
  have HE : Hid (w1.cell? ⟨w.heap.size, 0, none⟩ = some vc ∧ w1.cell? ⟨w.heap.size, 1, none⟩ = some (.slice a l.length cap)) := ⟨e0, e1⟩
  have HA : Hid (0 < l.length → ∃ b off, a = some ⟨b, off, none⟩ ∧ ∀ j, j < l.length → w1.cell? ⟨b, off + j * 3, none⟩ = some (.int .i64 (sb l j).n) ∧ w1.cell? ⟨b, off + j * 3 + 1, none⟩ = some (.int .i64 (sb l j).c) ∧ w1.cell? ⟨b, off + j * 3 + 2, none⟩ = some (.string (sb l j).v)) := hA
  have HC : Hid (Rd w1 vc c) := hrc1
  clear hA hrc1
  go_wp2
  clear e0 e1
  go_loopw [18] (fun q wr => ∃ k : Nat, k ≤ l.length ∧ q = .int .i64 k ∧ Hid (UpS c l k) ∧ Below w1.heap.size w1 wr)
    (fun q _ => l.length - (intOf q).toNat)
  case atStart => exact ⟨0, Nat.zero_le _, rfl, fun k hk => absurd hk (Nat.not_lt_zero k), Below.refl _ _⟩
  case round =>
    obtain ⟨k, hk, rfl, hu, hbr⟩ := hrel
    have hsz := hbr.size
    have g0 := cell_later hbr HE.out.1
    have g1 := cell_later hbr HE.out.2
    by_cases hlt : k < l.length
    · obtain ⟨b, off, rfl, hr⟩ := HA.out (by omega)
      have q1 : (k : Int) < (l.length : Int) := by omega
      have q0 : (0 : Int) ≤ (k : Int) := by omega
      have e0 := cell_later hbr (hr k hlt).1
      have e1 := cell_later hbr (hr k hlt).2.1
      have e2 := cell_later hbr (hr k hlt).2.2
      obtain ⟨x, hx⟩ : ∃ x, sb l k = x := ⟨_, rfl⟩
      rw [hx] at e0 e1 e2
      have HX : Hid (sb l k = x) := hx
      have HR : Hid (0 < k → wr.cell? ⟨b, off + (k - 1) * 3, none⟩ = some (.int .i64 (sb l (k - 1)).n) ∧ wr.cell? ⟨b, off + (k - 1) * 3 + 1, none⟩ = some (.int .i64 (sb l (k - 1)).c) ∧ wr.cell? ⟨b, off + (k - 1) * 3 + 2, none⟩ = some (.string (sb l (k - 1)).v)) :=
        fun _ => ⟨cell_later hbr (hr (k - 1) (by omega)).1, cell_later hbr (hr (k - 1) (by omega)).2.1, cell_later hbr (hr (k - 1) (by omega)).2.2⟩
      clear hr hx
      go_wp2_with fail
      obtain ⟨W2, hW2, hbW, t0, t1, t2⟩ : ∃ W2, (wr.alloc (.cells #[.int .i64 x.n, .int .i64 x.c, .string x.v] 57)) = W2 ∧ Below wr.heap.size wr W2 ∧
          W2.cell? ⟨wr.heap.size, 0, none⟩ = some (.int .i64 x.n) ∧ W2.cell? ⟨wr.heap.size, 1, none⟩ = some (.int .i64 x.c) ∧ W2.cell? ⟨wr.heap.size, 2, none⟩ = some (.string x.v) :=
        ⟨_, rfl, (Below.refl _ _).alloc (Nat.le_refl _) _, by simp [go_sem], by simp [go_sem], by simp [go_sem]⟩
      rw [hW2]
      have g0' := cell_later hbW g0
      have g1' := cell_later hbW g1
      have hb2 : Below w1.heap.size w1 W2 := hbr.trans (hbW.mono hsz)
      have hs2 := hbW.size
      refine (isDot_any x.n x.c W2).mono ?_
      rintro e w2 ⟨rfl, rfl⟩
      clear hW2 e0 e1 e2 g0 g1
      rcases (Decidable.em (dotB x.n x.c = true)).symm with hd | hd
      · have HN : Hid (¬ SetOK c l) := fun h => hd ((dotB_iff _ _).2 (HX.out ▸ (h.2.2 k hlt).1))
        have hd' : dotB x.n x.c = false := by simpa using hd
        rw [hd']
        clear hd hd'
        go_wp2
        go_ret
        exact BoolEnd.no HN.out (hb1.trans (hb2.mono hs1))
      have HD : Hid (Dot x.n x.c) := (dotB_iff _ _).1 hd
      rw [hd]
      clear hd
      go_wp2_with fail
      refine (seen_any vc c x.n x.c w2 (HC.out.below hb2) (clk_us' HK.out) HD.out.2.2.1).mono ?_
      rintro e w3 ⟨rfl, hb3⟩
      have f0 := cell_later hb3 t0
      have f1 := cell_later hb3 t1
      have f2 := cell_later hb3 t2
      have g0'' := cell_later hb3 g0'
      have g1'' := cell_later hb3 g1'
      have hb4 : Below w1.heap.size w1 w3 := hb2.trans (hb3.mono (by omega))
      have hb5 : Below wr.heap.size wr w3 := hbW.trans (hb3.mono hs2)
      have hs4 := hb4.size
      clear t0 t1 t2 g0' g1'
      rcases (Decidable.em (x.c ≤ cS c x.n)).symm with hsn | hsn
      · have HN : Hid (¬ SetOK c l) := fun h => hsn (HX.out ▸ (h.2.2 k hlt).2.1)
        have gd : decide (x.c ≤ cS c x.n) = false := by simpa using hsn
        rw [gd]
        clear gd hsn
        go_wp2
        go_ret
        exact BoolEnd.no HN.out (hb1.trans (hb4.mono hs1))
      have HSN : Hid (x.c ≤ cS c x.n) := hsn
      have gd : decide (x.c ≤ cS c x.n) = true := by simpa using hsn
      rw [gd]
      clear gd hsn
      rcases (Decidable.em (x.v.size ≤ 200)).symm with h200 | h200
      · have HN : Hid (¬ SetOK c l) := fun h => h200 (HX.out ▸ (h.2.2 k hlt).2.2.1)
        have gd : (200 : Int) < (x.v.size : Int) := by omega
        clear h200
        go_wp2
        go_ret
        exact BoolEnd.no HN.out (hb1.trans (hb4.mono hs1))
      have gv : ¬ (200 : Int) < (x.v.size : Int) := by omega
      by_cases h0 : 0 < k
      · have k1 : (0 : Int) < (k : Int) := by omega
        have k2 : (0 : Int) ≤ (k : Int) - 1 := by omega
        have k3 : (k : Int) - 1 < (l.length : Int) := by omega
        have k4 : ((k : Int) - 1).toNat = k - 1 := by omega
        have k6 : (1 : Int) ≤ (k : Int) := by omega
        have k5 : IntKind.i64.wrap ((k : Int) - 1) = (k : Int) - 1 := by rw [IntKind.wrap_i64]; omega
        have gd : decide ((0 : Int) < (k : Int)) = true := by simp; omega
        have p0 := cell_regrown (cell_later hb5 (HR.out h0).1)
        have p1 := cell_regrown (cell_later hb5 (HR.out h0).2.1)
        have p2 := cell_regrown (cell_later hb5 (HR.out h0).2.2)
        have f0r := cell_regrown f0
        have f1r := cell_regrown f1
        have f2r := cell_regrown f2
        have g1r := cell_regrown g1''
        have HCC : Hid (∀ d os, Calls Try.prog 51 #[.agg #[.int .i64 (sb l (k - 1)).n, .int .i64 (sb l (k - 1)).c, .string (sb l (k - 1)).v], .agg #[.int .i64 x.n, .int .i64 x.c, .string x.v]] (grow (redrawn w3 d) os) fun e w'' => e = .returned (.int .i64 (cd (sb l (k - 1)) x)) ∧ ∃ p : Regrown, w'' = grow (redrawn w3 p.d) p.os) :=
          fun d os => Calls.regrown_of (compareDots_any _ _ _ _ _ _ _)
        obtain ⟨y, hy⟩ : ∃ y, sb l (k - 1) = y := ⟨_, rfl⟩
        have HY : Hid (sb l (k - 1) = y) := hy
        rw [hy] at p0 p1 p2 HCC
        obtain ⟨r, hr2⟩ : ∃ r, cd y x = r := ⟨_, rfl⟩
        have HRR : Hid (cd y x = r) := hr2
        rw [hr2] at HCC
        clear hr2 hy
        go_wp2_with fail
        refine wp_region_quiet_below (by kernel_rfl) (by kernel_rfl) ?_
        repeat (quiet_step (first | (go_at_call 51; exact HCC.out _ _)))
        refine wpQuiet_nil ?_
        intro _ hw'
        obtain ⟨⟨dq, osq⟩, hw''⟩ := hw'
        subst hw''
        by_cases hneg : r < 0
        · have gn : decide (0 ≤ r) = false := by simp; omega
          go_wp2
          go_roundw
          case rel => exact ⟨k + 1, by omega, by go_num, hu.out.succ (HX.out.symm ▸ HD.out) (HX.out.symm ▸ HSN.out) (HX.out.symm ▸ h200) (fun _ => by rw [HX.out, HY.out, HRR.out]; exact hneg), hb4.trans ((below_regrown w3 dq osq).mono hs4)⟩
          case measure => simp [intOf]; omega
        · have gn : decide (0 ≤ r) = true := by simp; omega
          have HN : Hid (¬ SetOK c l) := fun h => hneg (by have := (h.2.2 k hlt).2.2.2 h0; rw [HX.out, HY.out, HRR.out] at this; exact this)
          go_wp2
          go_ret
          exact BoolEnd.no HN.out (hb1.trans ((hb4.trans ((below_regrown w3 dq osq).mono hs4)).mono hs1))
      · have gd : decide ((0 : Int) < (k : Int)) = false := by simp; omega
        go_wp2_with fail
        go_quiet (fail)
        go_wp2
        go_roundw
        case rel => exact ⟨k + 1, by omega, by go_num, hu.out.succ (HX.out.symm ▸ HD.out) (HX.out.symm ▸ HSN.out) (HX.out.symm ▸ h200) (fun h => absurd h h0), (by repeat (first | exact hb4 | refine below_drewN ?_ _ | refine Below.drew ?_))⟩
        case measure => simp [intOf]; omega
    · have he : k = l.length := by omega
      subst he
      go_wp2
      go_ret
      exact BoolEnd.yes ⟨HK.out, h6, hu.out⟩ (hb1.trans (hbr.mono hs1))
end Go.Proofs.Ytkiipmdplpcfeaa
