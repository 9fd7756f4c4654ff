/- The journal: begin, write. -/
import Derived.Test.YtilkdeghknjjhaaGreatDoorPart37
import Derived.Test.YtilkdeghknjjhaaGreatDoorPart01
import Derived.Test.YtilkdeghknjjhaaGreatDoorPart34
import Derived.Deep.Cut
import Derived.Deep.CutRange
namespace Go.Proofs.YtilkdeghknjjhaaGreatDoor
open Go.RowKit M
set_option linter.unusedVariables false

/-- What begin does. -/
def jbegin (D : Dk) (J : Jn) : Bool × Dk × Jn :=
  if (jsl D J).1 = false then (false, (jsl D J).2, J)
  else if (jsl D J).2.creates (fnm (J.num + 1)) = false then (false, (jsl D J).2.create (fnm (J.num + 1)), J)
  else (true, (jsl D J).2.create (fnm (J.num + 1)), ⟨J.roll, J.num + 1, 0, false⟩)
theorem jbegin_wf {D : Dk} (h : D.WF) (k : Nat) (hb : D.Bud (k + 2)) (J : Jn) : (jbegin D J).2.1.WF := by
  have h1 := jsl_wf h _ hb J
  have h2 := jsl_bud hb J
  unfold jbegin
  split
  · exact h1
  · split
    · exact h1.create' h2 _
    · exact h1.create' h2 _
theorem jbegin_bud {D : Dk} (h : D.WF) {k : Nat} (hb : D.Bud (k + 2)) (J : Jn) : (jbegin D J).2.1.Bud k := by
  have h1 := jsl_wf h _ hb J
  have h2 := jsl_bud hb J
  unfold jbegin
  split
  · exact h2.mono (by omega)
  · split
    · exact h2.create h1 _
    · exact h2.create h1 _

/-- How far begin has come: syncLast, Create. -/
def begPh (Z : Nat → Prop) (w : World) (j d : Nat) (D D1 D2 : Dk) (J : Jn) (a b : Bool) (X : World) : Prop :=
  Side Z X j d (if b = true then D2 else if a = true then D1 else D) J ∧ Tr Z w X
set_option maxRecDepth 20000 in
set_option maxHeartbeats 1600000 in
theorem begin_any (Z : Nat → Prop) (j d : Nat) (D : Dk) (J : Jn) (w : World) (h : Side Z w j d D J) (ha : Apart Z j) (hz : Opn Z w) (hwf : D.WF) (hbu : D.Bud 2) (hn : J.num < 1000000000) :
    Calls Tryz.prog 191 #[.pointer (some ⟨j, 0, none⟩)] w fun e w' => e = .returned (.bool (jbegin D J).1) ∧ Side Z w' j d (jbegin D J).2.1 (jbegin D J).2.2 ∧ Tr (Zj Z j) w w' := by
  have HL : Hid (∀ X, Side Z X j d D J → Calls Tryz.prog 117 #[.pointer (some ⟨j, 0, none⟩)] X fun e w' => e = .returned (.bool (jsl D J).1) ∧ Side Z w' j d (jsl D J).2 J ∧ Tr Z X w') := fun X hX => syncLast_any Z j d D J X hX ha hwf hn
  have hw1 := jsl_wf hwf _ hbu J
  have hb1 := jsl_bud hbu J
  have HF : Hid (∀ w1, Vars w1 → Calls Tryz.prog 125 #[.int .i64 ((J.num : Int) + 1)] w1 fun e w' => e = .returned (.string (fnm (J.num + 1))) ∧ Below w1.heap.size w1 w') := fun w1 h1 => by
    have := fileName_any (J.num + 1) w1 (by omega) h1
    rw [show (((J.num + 1 : Nat)) : Int) = (J.num : Int) + 1 by omega] at this
    exact this
  have HC : Hid (∀ w1, Side Z w1 j d (jsl D J).2 J → Opn Z w1 → Calls Tryz.prog 193 #[.pointer (some ⟨d, 0, none⟩), .string (fnm (J.num + 1))] w1 fun e w' => e = .returned (.bool ((jsl D J).2.creates (fnm (J.num + 1)))) ∧ DiskAt Z w' d ((jsl D J).2.create (fnm (J.num + 1))) ∧ Tr Z w1 w') :=
    fun w1 h1 h2 => Create_any Z d _ _ w1 h1.dk hw1.ok h2 (by have := hb1.l; omega) (by have := hb1.s; omega)
  have HJ : Hid (jbegin D J = if (jsl D J).1 = false then (false, (jsl D J).2, J) else if (jsl D J).2.creates (fnm (J.num + 1)) = false then (false, (jsl D J).2.create (fnm (J.num + 1)), J) else (true, (jsl D J).2.create (fnm (J.num + 1)), ⟨J.roll, J.num + 1, 0, false⟩)) := rfl
  obtain ⟨q, hq⟩ : ∃ q, jsl D J = q := ⟨_, rfl⟩
  rw [hq] at HL HC HJ
  obtain ⟨n, hnn⟩ : ∃ n, fnm (J.num + 1) = n := ⟨_, rfl⟩
  rw [hnn] at HF HC HJ
  obtain ⟨b, D1⟩ := q
  simp only at HL HC HJ
  obtain ⟨c, hc⟩ : ∃ c, D1.creates n = c := ⟨_, rfl⟩
  rw [hc] at HC HJ
  have n0 : (0 : Int) ≤ (J.num : Int) := by omega
  have n1 : (J.num : Int) ≤ 1000000000 := by omega
  have hcw : (IntKind.i64.wrap ((J.num : Int) + 1)) = (J.num : Int) + 1 := wrap_in _ (by omega) (by omega)
  have d0 : w.drew.cell? ⟨j, 0, none⟩ = some (.pointer (some ⟨d, 0, none⟩)) := (h.jn.cell 0).trans rfl
  have d2 : w.drew.cell? ⟨j, 2, none⟩ = some (.int .i64 J.num) := (h.jn.cell 2).trans rfl
  have h0 := h.below (Below.drew (Below.refl w.heap.size w))
  clear hq hnn hc hw1 hb1 hwf hbu hn h
  have hop : Opn Z w := hz
  clear hz d0 d2
  cases b
  · have HJ2 : Hid (jbegin D J = (false, D1, J)) := HJ
    clear HJ
    go_enter Tryz.func191, Tryz.ntmps191
    go_upto_region 1 with (fail)
    refine wp_region_flow 34 [] (fun _ => #[.pointer (some ⟨j, 0, none⟩), undef, .bool false, .pointer (some ⟨j, 0, none⟩), .bool false, .bool true, .bool true, undef, undef, undef, undef, undef, undef, undef, undef, undef, undef, undef, undef, .bool true, undef, undef, undef, undef, undef, undef, undef, undef, undef, undef, undef, undef, undef, undef])
      (fun L X => begPh Z w j d D D1 (D1.create n) J (L 1) false X) (fun _ _ => True) (fun _ _ _ => True)
      (by kernel_rfl) (by kernel_rfl) (fun u => rfl) (fun u k hk => by simp at hk) (fun u v k hk => rfl) (fun k hk => by simp at hk) rfl ?_ (fun _ _ _ _ _ _ => trivial) ⟨h0, (Tr.refl Z w).drew⟩ (eachOp_at ?_) ?_
    · intro u; exact flow_keep [0, 1, 2, 20, 21, 22, 23, 24, 25, 26, 27, 28, 29, 30, 31, 32, 33] (by kernel_rfl) rfl rfl (by intro k hk; simp at hk; rcases hk with rfl | rfl | rfl | rfl | rfl | rfl | rfl | rfl | rfl | rfl | rfl | rfl | rfl | rfl | rfl | rfl | rfl <;> rfl)
    · simp only [eachOp]
      refine ⟨?_, ?_, ?_, ?_, ?_, ?_, ?_, ?_, ?_, ?_, ?_, ?_, ?_, ?_, ?_, ?_, ?_, trivial⟩
      all_goals
        intro L u X hL hup hcl hX hr
        clear hr
        have f0 : X.cell? ⟨j, 0, none⟩ = some (.pointer (some ⟨d, 0, none⟩)) := (hX.1.jn.cell 0).trans rfl
        have f2 : X.cell? ⟨j, 2, none⟩ = some (.int .i64 J.num) := (hX.1.jn.cell 2).trans rfl
      · refine wantedI rfl ?_; go_simp; exact ⟨by rw [andI_ne L (by decide)]; exact hX, rfl⟩
      · refine wantedI rfl ?_
        have h1 : L 1 = false := hL
        go_simp
        have hX2 := hX
        rw [h1] at hX2
        exact (HL.out X hX2.1).mono fun e w' ⟨he, hs, ht⟩ => ⟨_, he, by show begPh Z w j d D D1 (D1.create n) J (andI L 1 1) false w'; rw [andI_same]; exact ⟨hs, hX2.2.trans ht⟩, rfl⟩
      · refine wantedI rfl ?_; go_simp; exact ⟨by rw [andI_ne L (by decide)]; exact hX, rfl⟩
      · refine wantedI rfl ?_; go_simp; exact ⟨by rw [andI_ne L (by decide)]; exact hX, rfl⟩
      · refine wantedN (by exact Bool.false_ne_true) ⟨by show begPh Z w j d D D1 (D1.create n) J (andI L _ 1) false X; rw [andI_ne L (by decide)]; exact hX, fun q hq => ?_⟩; cases hq; exact ⟨by simp, rfl⟩
      · refine wantedN (by exact Bool.false_ne_true) ⟨by show begPh Z w j d D D1 (D1.create n) J (andI L _ 1) false X; rw [andI_ne L (by decide)]; exact hX, fun q hq => ?_⟩; cases hq; exact ⟨by simp, rfl⟩
      · refine wantedN (by exact Bool.false_ne_true) ⟨by show begPh Z w j d D D1 (D1.create n) J (andI L _ 1) false X; rw [andI_ne L (by decide)]; exact hX, fun q hq => ?_⟩; cases hq; exact ⟨by simp, rfl⟩
      · refine wantedN (by exact Bool.false_ne_true) ⟨by show begPh Z w j d D D1 (D1.create n) J (andI L _ 1) false X; rw [andI_ne L (by decide)]; exact hX, fun q hq => ?_⟩; cases hq; exact ⟨by simp, rfl⟩
      · refine wantedN (by exact Bool.false_ne_true) ⟨by show begPh Z w j d D D1 (D1.create n) J (andI L _ 1) false X; rw [andI_ne L (by decide)]; exact hX, fun q hq => ?_⟩; cases hq; exact ⟨by simp, rfl⟩
      · refine wantedN (by exact Bool.false_ne_true) ⟨by show begPh Z w j d D D1 (D1.create n) J (andI L _ 1) false X; rw [andI_ne L (by decide)]; exact hX, fun q hq => ?_⟩; cases hq; exact ⟨by simp, rfl⟩
      · refine wantedN (by exact Bool.false_ne_true) ⟨by show begPh Z w j d D D1 (D1.create n) J (andI L _ 1) false X; rw [andI_ne L (by decide)]; exact hX, fun q hq => ?_⟩; cases hq; exact ⟨by simp, rfl⟩
      · refine wantedN (by exact Bool.false_ne_true) ⟨by show begPh Z w j d D D1 (D1.create n) J (andI L _ 1) false X; rw [andI_ne L (by decide)]; exact hX, fun q hq => ?_⟩; cases hq; exact ⟨by simp, rfl⟩
      · refine wantedN (by exact Bool.false_ne_true) ⟨by show begPh Z w j d D D1 (D1.create n) J (andI L _ 1) false X; rw [andI_ne L (by decide)]; exact hX, fun q hq => ?_⟩; cases hq; exact ⟨by simp, rfl⟩
      · refine wantedN (by exact Bool.false_ne_true) ⟨by show begPh Z w j d D D1 (D1.create n) J (andI L _ 1) false X; rw [andI_ne L (by decide)]; exact hX, fun q hq => ?_⟩; cases hq; exact ⟨by simp, rfl⟩
      · refine wantedN (by exact Bool.false_ne_true) ⟨by show begPh Z w j d D D1 (D1.create n) J (andI L _ 1) false X; rw [andI_ne L (by decide)]; exact hX, fun q hq => ?_⟩; cases hq; exact ⟨by simp, rfl⟩
      · refine wantedN (by exact Bool.false_ne_true) ⟨by show begPh Z w j d D D1 (D1.create n) J (andI L _ 1) false X; rw [andI_ne L (by decide)]; exact hX, fun q hq => ?_⟩; cases hq; exact ⟨by simp, rfl⟩
      · refine wantedI rfl ?_; go_simp; exact ⟨by rw [andI_ne L (by decide)]; exact hX, rfl⟩
    · intro L u X hL hX hr
      have h1 : L 1 = true := hL 1 (by decide)
      rw [h1] at hX
      go_wp2
      go_ret
      exact ⟨by rw [HJ2.out]; rfl, by rw [HJ2.out]; exact hX.1, hX.2.zj j⟩
  · go_enter Tryz.func191, Tryz.ntmps191
    go_upto_region 1 with (fail)
    refine wp_region_flow 34 [] (fun _ => #[.pointer (some ⟨j, 0, none⟩), undef, .bool false, .pointer (some ⟨j, 0, none⟩), .bool true, .bool false, .bool false, .pointer (some ⟨j, 0, none⟩), .pointer (some ⟨j, 0, none⟩), .pointer (some ⟨j, 0, none⟩), .pointer (some ⟨d, 0, none⟩), .pointer (some ⟨j, 0, none⟩), .pointer (some ⟨j, 0, none⟩), .pointer (some ⟨j, 2, none⟩), .int .i64 J.num, .int .i64 ((J.num : Int) + 1), .string n, .bool c, .bool (!c), .bool (!c), undef, undef, undef, undef, undef, undef, undef, undef, undef, undef, undef, undef, undef, undef])
      (fun L X => begPh Z w j d D D1 (D1.create n) J (L 1) (L 14) X) (fun _ _ => True) (fun _ _ _ => True)
      (by kernel_rfl) (by kernel_rfl) (fun u => rfl) (fun u k hk => by simp at hk) (fun u v k hk => rfl) (fun k hk => by simp at hk) rfl ?_ (fun _ _ _ _ _ _ => trivial) ⟨h0, (Tr.refl Z w).drew⟩ (eachOp_at ?_) ?_
    · intro u; exact flow_keep [0, 1, 2, 20, 21, 22, 23, 24, 25, 26, 27, 28, 29, 30, 31, 32, 33] (by kernel_rfl) rfl rfl (by intro k hk; simp at hk; rcases hk with rfl | rfl | rfl | rfl | rfl | rfl | rfl | rfl | rfl | rfl | rfl | rfl | rfl | rfl | rfl | rfl | rfl <;> rfl)
    · simp only [eachOp]
      refine ⟨?_, ?_, ?_, ?_, ?_, ?_, ?_, ?_, ?_, ?_, ?_, ?_, ?_, ?_, ?_, ?_, ?_, trivial⟩
      all_goals
        intro L u X hL hup hcl hX hr
        clear hr
        have f0 : X.cell? ⟨j, 0, none⟩ = some (.pointer (some ⟨d, 0, none⟩)) := (hX.1.jn.cell 0).trans rfl
        have f2 : X.cell? ⟨j, 2, none⟩ = some (.int .i64 J.num) := (hX.1.jn.cell 2).trans rfl
      · refine wantedI rfl ?_; go_simp; exact ⟨by rw [andI_ne L (by decide), andI_ne L (by decide)]; exact hX, rfl⟩
      · refine wantedI rfl ?_
        have h1 : L 1 = false := hL
        have h14 : L 14 = false := by
          cases h : L 14
          · rfl
          · have := hcl 14 1 h (by kernel_rfl)
            rw [h1] at this; cases this
        go_simp
        have hX2 := hX
        rw [h1, h14] at hX2
        exact (HL.out X hX2.1).mono fun e w' ⟨he, hs, ht⟩ => ⟨_, he, by show begPh Z w j d D D1 (D1.create n) J (andI L 1 1) (andI L 1 14) w'; rw [andI_same, andI_ne L (by decide), h14]; exact ⟨hs, hX2.2.trans ht⟩, rfl⟩
      · refine wantedI rfl ?_; go_simp; exact ⟨by rw [andI_ne L (by decide), andI_ne L (by decide)]; exact hX, rfl⟩
      · refine wantedI rfl ?_; go_simp; exact ⟨by rw [andI_ne L (by decide), andI_ne L (by decide)]; exact hX, rfl⟩
      · refine wantedI rfl ?_; go_simp; exact ⟨by rw [andI_ne L (by decide), andI_ne L (by decide)]; exact hX, rfl⟩
      · refine wantedI rfl ?_; go_simp; exact ⟨by rw [andI_ne L (by decide), andI_ne L (by decide)]; exact hX, rfl⟩
      · refine wantedI rfl ?_; go_simp; exact ⟨by rw [andI_ne L (by decide), andI_ne L (by decide)]; exact hX, rfl⟩
      · refine wantedI rfl ?_; go_simp; exact ⟨by rw [andI_ne L (by decide), andI_ne L (by decide)]; exact hX, rfl⟩
      · refine wantedI rfl ?_; go_simp; exact ⟨by rw [andI_ne L (by decide), andI_ne L (by decide)]; exact hX, rfl⟩
      · refine wantedI rfl ?_; go_simp; exact ⟨by rw [andI_ne L (by decide), andI_ne L (by decide)]; exact hX, rfl⟩
      · refine wantedI rfl ?_; go_simp; exact ⟨by rw [andI_ne L (by decide), andI_ne L (by decide)]; exact hX, rfl⟩
      · refine wantedI rfl ?_; go_simp; exact ⟨by rw [andI_ne L (by decide), andI_ne L (by decide)]; exact hX, rfl⟩
      · refine wantedI rfl ?_; go_simp; exact ⟨by rw [andI_ne L (by decide), andI_ne L (by decide)]; exact hX, rfl⟩
      · refine wantedI rfl ?_; go_simp
        exact (HF.out X hX.1.vs).mono fun e w' ⟨he, hb⟩ => ⟨_, he, by show begPh Z w j d D D1 (D1.create n) J (andI L 13 1) (andI L 13 14) w'; rw [andI_ne L (by decide), andI_ne L (by decide)]; exact ⟨hX.1.below hb, hX.2.trans (below_tr hb Z)⟩, rfl⟩
      · refine wantedI rfl ?_
        have h14' : L 14 = false := hL
        have h1' : L 1 = true := hup 1 (by kernel_rfl)
        go_simp
        have hX2 := hX
        rw [h14', h1'] at hX2
        exact (HC.out X hX2.1 (hop.size hX2.2.size)).mono fun e w' ⟨he, hs, ht⟩ => ⟨_, he, by show begPh Z w j d D D1 (D1.create n) J (andI L 14 1) (andI L 14 14) w'; rw [andI_same, andI_ne L (by decide), h1']; exact ⟨hX2.1.disk ha ht hs, hX2.2.trans ht⟩, rfl⟩
      · refine wantedI rfl ?_; go_simp; exact ⟨by rw [andI_ne L (by decide), andI_ne L (by decide)]; exact hX, rfl⟩
      · refine wantedI rfl ?_; go_simp; exact ⟨by rw [andI_ne L (by decide), andI_ne L (by decide)]; exact hX, rfl⟩
    · intro L u X hL hX hr
      have h1 : L 1 = true := hL 1 (by decide)
      have h14 : L 14 = true := hL 14 (by decide)
      rw [h1, h14] at hX
      cases c
      · have HJ2 : Hid (jbegin D J = (false, D1.create n, J)) := HJ
        clear HJ
        go_wp2
        go_ret
        exact ⟨by rw [HJ2.out]; rfl, by rw [HJ2.out]; exact hX.1, hX.2.zj j⟩
      · have HJ2 : Hid (jbegin D J = (true, D1.create n, ⟨J.roll, J.num + 1, 0, false⟩)) := HJ
        clear HJ
        have HX : Hid (Side Z X j d (D1.create n) J ∧ Tr Z w X) := hX
        have f2 : X.cell? ⟨j, 2, none⟩ = some (.int .i64 J.num) := (hX.1.jn.cell 2).trans rfl
        have f3 : X.cell? ⟨j, 3, none⟩ = some (.int .i64 J.size) := (hX.1.jn.cell 3).trans rfl
        have f4 : X.cell? ⟨j, 4, none⟩ = some (.bool J.cut) := (hX.1.jn.cell 4).trans rfl
        have fz : ∀ o, X.frozen? ⟨j, o, none⟩ = false := hX.1.jn.frozen
        clear hX HC HF HL
        go_wp2
        go_ret
        have h2 := HX.out.1.set ha 2 (.int .i64 ((J.num + 1 : Nat) : Int)) (HX.out.1.jn.setNum (J.num + 1))
        have h3 := h2.set ha 3 (.int .i64 ((0 : Nat) : Int)) (h2.jn.setSize 0)
        have h4 := h3.set ha 4 (.bool false) (h3.jn.setCut false)
        exact ⟨by rw [HJ2.out]; rfl, by rw [HJ2.out]; exact h4, (((HX.out.2.zj j).setJ 2 _).setJ 3 _).setJ 4 _⟩
end Go.Proofs.YtilkdeghknjjhaaGreatDoor
/- The journal: write, Append. -/
namespace Go.Proofs.YtilkdeghknjjhaaGreatDoor
open Go.RowKit M
set_option linter.unusedVariables false

/-- What write does. -/
def jwrite (D : Dk) (J : Jn) (t : ByteArray) : Bool × Dk × Jn :=
  if D.appends (fnm J.num) t = true then (true, D.append (fnm J.num) t, ⟨J.roll, J.num, J.size + t.size, J.cut⟩) else (false, D.append (fnm J.num) t, J)

set_option maxRecDepth 20000 in
set_option maxHeartbeats 1600000 in
theorem write_any (Z : Nat → Prop) (j d : Nat) (D : Dk) (J : Jn) (t : ByteArray) (w : World) (h : Side Z w j d D J) (ha : Apart Z j) (hwf : D.WF) (hbu : D.Bud 1) (hn : J.num < 1000000000) (hs : J.size ≤ 1000000000) (ht : t.size ≤ 1000000000) :
    Calls Tryz.prog 192 #[.pointer (some ⟨j, 0, none⟩), .string t] w fun e w' => e = .returned (.bool (jwrite D J t).1) ∧ Side Z w' j d (jwrite D J t).2.1 (jwrite D J t).2.2 ∧ Tr (Zj Z j) w w' := by
  have c0 : w.cell? ⟨j, 0, none⟩ = some (.pointer (some ⟨d, 0, none⟩)) := (h.jn.cell 0).trans rfl
  have c2 : w.cell? ⟨j, 2, none⟩ = some (.int .i64 J.num) := (h.jn.cell 2).trans rfl
  have HF : Hid (∀ w1, Below w.heap.size w w1 → Calls Tryz.prog 125 #[.int .i64 J.num] w1 fun e w' => e = .returned (.string (fnm J.num)) ∧ Below w1.heap.size w1 w') := fun w1 h1 => fileName_any J.num w1 (by omega) (h.vs.below h1)
  have HS : Hid (∀ w1, Below w.heap.size w w1 → Calls Tryz.prog 194 #[.pointer (some ⟨d, 0, none⟩), .string (fnm J.num), .string t] w1 fun e w' => e = .returned (.bool (D.appends (fnm J.num) t)) ∧ DiskAt Z w' d (D.append (fnm J.num) t) ∧ Tr Z w1 w') := fun w1 h1 => Append_any Z d D _ t w1 (h.dk.below h1) hwf.ok hbu.lt ht
  have HEnd : Hid (∀ w1 w2, Below w.heap.size w w1 → Tr Z w1 w2 → DiskAt Z w2 d (D.append (fnm J.num) t) → Side Z w2 j d (D.append (fnm J.num) t) J ∧ Tr Z w w2) := fun w1 w2 h1 h2 h3 => ⟨(h.below h1).disk ha h2 h3, (below_tr h1 Z).trans h2⟩
  have HJ : Hid (jwrite D J t = if D.appends (fnm J.num) t = true then (true, D.append (fnm J.num) t, ⟨J.roll, J.num, J.size + t.size, J.cut⟩) else (false, D.append (fnm J.num) t, J)) := rfl
  have hzj := ha.z
  obtain ⟨n, hnn⟩ : ∃ n, fnm J.num = n := ⟨_, rfl⟩
  rw [hnn] at HF HS HEnd HJ
  obtain ⟨b, hb⟩ : ∃ b, D.appends n t = b := ⟨_, rfl⟩
  rw [hb] at HS HJ
  have hw0 : Below w.heap.size w w := Below.refl _ _
  have s0 : (0 : Int) ≤ (J.size : Int) := by omega
  have s1 : (J.size : Int) ≤ 1000000000 := by omega
  have s2 : (0 : Int) ≤ (t.size : Int) := by omega
  have s3 : (t.size : Int) ≤ 1000000000 := by omega
  clear hnn hb h hn hwf hbu hs ht
  go_enter Tryz.func192, Tryz.ntmps192
  go_upto_region 1 with (fail)
  go_region_held3 (fun w' => w'.cell? ⟨j, 0, none⟩ = some (.pointer (some ⟨d, 0, none⟩)) ∧ w'.cell? ⟨j, 2, none⟩ = some (.int .i64 J.num))
    (first | exact ⟨c0, c2⟩ | exact ⟨by assumption, by assumption⟩)
    (first
      | ((go_at_call 125; refine (HF.out _ (Below.drew hw0)).mono ?_; rintro e w1 ⟨rfl, hb1⟩; have B1 := belowN (Below.drew hw0) hb1; have f0 := cell_later B1 c0; have f2 := cell_later B1 c2))
      | ((go_at_call 194; refine (HS.out _ B1).mono ?_; rintro e w2 ⟨rfl, h2, t2⟩; have g0 := cell_tr t2 f0 hzj; have g2 := cell_tr t2 f2 hzj)))
  obtain ⟨h3, h4⟩ := HEnd.out _ _ B1 t2 h2
  have HX : Hid (Side Z w2 j d (D.append n t) J ∧ Tr Z w w2) := ⟨h3, h4⟩
  have k3 : w2.cell? ⟨j, 3, none⟩ = some (.int .i64 J.size) := (h3.jn.cell 3).trans rfl
  have fz : ∀ o, w2.frozen? ⟨j, o, none⟩ = false := h3.jn.frozen
  clear h3 h4 h2 t2 hb1 B1 f0 f2 HEnd HS HF c0 c2
  cases b
  · have HJ2 : Hid (jwrite D J t = (false, D.append n t, J)) := HJ
    clear HJ
    go_wp2
    go_ret
    exact ⟨by rw [HJ2.out]; rfl, by rw [HJ2.out]; exact HX.out.1, HX.out.2.zj j⟩
  · have HJ2 : Hid (jwrite D J t = (true, D.append n t, ⟨J.roll, J.num, J.size + t.size, J.cut⟩)) := HJ
    clear HJ
    go_wp2
    go_ret
    have h5 := HX.out.1.set ha 3 (.int .i64 ((J.size + t.size : Nat) : Int)) (HX.out.1.jn.setSize (J.size + t.size))
    exact ⟨by rw [HJ2.out]; rfl, by rw [HJ2.out]; exact h5, (HX.out.2.zj j).setJ 3 _⟩
end Go.Proofs.YtilkdeghknjjhaaGreatDoor
/- The journal: Append, text. -/
namespace Go.Proofs.YtilkdeghknjjhaaGreatDoor
open Go.RowKit M
set_option linter.unusedVariables false

/-- Must another file be begun? -/
def jneeds (J : Jn) (t : ByteArray) : Bool := decide (J.num = 0) || J.cut || decide (J.roll < J.size + t.size)
/-- What Append does. -/
def jappend (D : Dk) (J : Jn) (t : ByteArray) : Bool × Dk × Jn :=
  if jneeds J t = true then (if (jbegin D J).1 = true then jwrite (jbegin D J).2.1 (jbegin D J).2.2 t else (false, (jbegin D J).2.1, (jbegin D J).2.2)) else jwrite D J t
theorem jbegin_num (D : Dk) (J : Jn) : (jbegin D J).2.2.num ≤ J.num + 1 ∧ (jbegin D J).2.2.size ≤ J.size ∧ (jbegin D J).2.2.roll = J.roll := by
  unfold jbegin
  split
  · exact ⟨by show J.num ≤ _; omega, Nat.le_refl _, rfl⟩
  · split
    · exact ⟨by show J.num ≤ _; omega, Nat.le_refl _, rfl⟩
    · exact ⟨Nat.le_refl _, Nat.zero_le _, rfl⟩

set_option maxRecDepth 20000 in
set_option maxHeartbeats 1600000 in
theorem jAppend_any (Z : Nat → Prop) (j d : Nat) (D : Dk) (J : Jn) (m : Mt) (vc : Value) (w : World) (h : Side Z w j d D J) (ha : Apart Z j) (hz : Opn Z w) (hwf : D.WF) (hbu : D.Bud 3) (hn : J.num < 900000000) (hs : J.size ≤ 1000000000) (hr : J.roll ≤ 1000000000)
    (hrd : Rd w vc m.c) (hk : m.k.size ≤ 255) (hv : m.v.size ≤ 255) :
    Calls Tryz.prog 157 #[.pointer (some ⟨j, 0, none⟩), mtV m vc] w fun e w' => e = .returned (.bool (jappend D J (encM m)).1) ∧ Side Z w' j d (jappend D J (encM m)).2.1 (jappend D J (encM m)).2.2 ∧ Tr (Zj Z j) w w' := by
  obtain ⟨del, node, count, k, c, v⟩ := m
  obtain ⟨av, lv, cv, rfl⟩ : ∃ a l cap, vc = .slice a l cap := by obtain ⟨a, cap, h, _⟩ := hrd; exact ⟨_, _, _, h⟩
  have hts : (encM ⟨del, node, count, k, c, v⟩).size ≤ 1000 := by
    unfold encM
    have h1 := encT_size [(node, count)]
    have h2 := encT_size c
    have h3 : ∀ t : ByteArray, t.size ≤ 255 → (szT t).size ≤ 256 := fun t ht => by unfold szT; rw [ByteArray.size_append]; unfold byte1; rw [sz1]; omega
    have h4 := h3 k hk
    have h5 := h3 v hv
    have h6 : (byte1 (if del = true then 2 else 1)).size = 1 := rfl
    simp only [ByteArray.size_append, h6]
    omega
  obtain ⟨W, hW, HE, HS, HB, hrow⟩ : ∃ W, (w.alloc (.cells #[.bool del, .int .i64 node, .int .i64 count, .string k, .slice av lv cv, .string v] 111)) = W ∧
      Hid (Calls Tryz.prog 205 #[.agg #[.bool del, .int .i64 node, .int .i64 count, .string k, .slice av lv cv, .string v]] W fun e w' => e = .returned (.string (encM ⟨del, node, count, k, c, v⟩)) ∧ Below W.heap.size W w') ∧ Hid (Side Z W j d D J) ∧ Hid (Below w.heap.size w W) ∧ W.heap[w.heap.size]? = some (.cells #[.bool del, .int .i64 node, .int .i64 count, .string k, .slice av lv cv, .string v] 111 (0, 0)) := by
    have hb : Below w.heap.size w (w.alloc (.cells #[.bool del, .int .i64 node, .int .i64 count, .string k, .slice av lv cv, .string v] 111)) := (Below.refl _ _).alloc (Nat.le_refl _) _
    exact ⟨_, rfl, encode_any ⟨del, node, count, k, c, v⟩ (.slice av lv cv) _ (hrd.below hb) hk hv, h.below hb, hb, heap_alloc_new w _⟩
  obtain ⟨t, ht⟩ : ∃ t, encM ⟨del, node, count, k, c, v⟩ = t := ⟨_, rfl⟩
  rw [ht] at HE hts ⊢
  have hb2 := jbegin_bud hwf hbu J
  have hw2 := jbegin_wf hwf _ hbu J
  have hjn := jbegin_num D J
  have H1 : Hid (∀ X, Side Z X j d D J → Opn Z X → Calls Tryz.prog 191 #[.pointer (some ⟨j, 0, none⟩)] X fun e w' => e = .returned (.bool (jbegin D J).1) ∧ Side Z w' j d (jbegin D J).2.1 (jbegin D J).2.2 ∧ Tr (Zj Z j) X w') := fun X h1 h2 => begin_any Z j d D J X h1 ha h2 hwf (hbu.mono (by omega)) (by omega)
  have H2 : Hid (∀ X, Side Z X j d (jbegin D J).2.1 (jbegin D J).2.2 → Calls Tryz.prog 192 #[.pointer (some ⟨j, 0, none⟩), .string t] X fun e w' => e = .returned (.bool (jwrite (jbegin D J).2.1 (jbegin D J).2.2 t).1) ∧ Side Z w' j d (jwrite (jbegin D J).2.1 (jbegin D J).2.2 t).2.1 (jwrite (jbegin D J).2.1 (jbegin D J).2.2 t).2.2 ∧ Tr (Zj Z j) X w') :=
    fun X h1 => write_any Z j d _ _ t X h1 ha hw2 hb2 (by omega) (by omega) (by omega)
  have H3 : Hid (∀ X, Side Z X j d D J → Calls Tryz.prog 192 #[.pointer (some ⟨j, 0, none⟩), .string t] X fun e w' => e = .returned (.bool (jwrite D J t).1) ∧ Side Z w' j d (jwrite D J t).2.1 (jwrite D J t).2.2 ∧ Tr (Zj Z j) X w') :=
    fun X h1 => write_any Z j d D J t X h1 ha hwf (hbu.mono (by omega)) (by omega) hs (by omega)
  have HJ : Hid (jappend D J t = if jneeds J t = true then (if (jbegin D J).1 = true then jwrite (jbegin D J).2.1 (jbegin D J).2.2 t else (false, (jbegin D J).2.1, (jbegin D J).2.2)) else jwrite D J t) := rfl
  obtain ⟨⟨qb, qD, qJ⟩, hq⟩ : ∃ q, jbegin D J = q := ⟨_, rfl⟩
  rw [hq] at H1 H2 HJ
  simp only at H1 H2 HJ
  obtain ⟨R1, hR1⟩ : ∃ R, jwrite qD qJ t = R := ⟨_, rfl⟩
  obtain ⟨R2, hR2⟩ : ∃ R, jwrite D J t = R := ⟨_, rfl⟩
  rw [hR1] at H2 HJ
  rw [hR2] at H3 HJ
  have HN : Hid (jneeds J t = (decide (J.num = 0) || J.cut || decide (J.roll < J.size + t.size))) := rfl
  obtain ⟨nb, hnb⟩ : ∃ b, jneeds J t = b := ⟨_, rfl⟩
  rw [hnb] at HJ HN
  have s0 : (0 : Int) ≤ (J.size : Int) := by omega
  have s1 : (J.size : Int) ≤ 1000000000 := by omega
  have s2 : (0 : Int) ≤ (t.size : Int) := by omega
  have s3 : (t.size : Int) ≤ 1000 := by omega
  have s4 : (J.roll : Int) ≤ 1000000000 := by omega
  have hcw : IntKind.i64.wrap ((J.size : Int) + (t.size : Int)) = (J.size : Int) + (t.size : Int) := wrap_in _ (by omega) (by omega)
  clear ht hts hb2 hw2 hjn hq hR1 hR2 hnb h hwf hbu hn hs hr hrd hk hv
  have x0 : W.cell? ⟨w.heap.size, 0, none⟩ = some (.bool del) := by rw [cell_of_row _ _ _ _ _ _ hrow]; rfl
  have x1 : W.cell? ⟨w.heap.size, 1, none⟩ = some (.int .i64 node) := by rw [cell_of_row _ _ _ _ _ _ hrow]; rfl
  have x2 : W.cell? ⟨w.heap.size, 2, none⟩ = some (.int .i64 count) := by rw [cell_of_row _ _ _ _ _ _ hrow]; rfl
  have x3 : W.cell? ⟨w.heap.size, 3, none⟩ = some (.string k) := by rw [cell_of_row _ _ _ _ _ _ hrow]; rfl
  have x4 : W.cell? ⟨w.heap.size, 4, none⟩ = some (.slice av lv cv) := by rw [cell_of_row _ _ _ _ _ _ hrow]; rfl
  have x5 : W.cell? ⟨w.heap.size, 5, none⟩ = some (.string v) := by rw [cell_of_row _ _ _ _ _ _ hrow]; rfl
  unfold mtV
  simp only
  clear hrow
  go_enter Tryz.func157, Tryz.ntmps157
  go_wp2_with fail
  clear hW
  refine HE.out.mono ?_
  rintro e w1 ⟨rfl, hb1⟩
  have HS1 : Hid (Side Z w1 j d D J ∧ Below w.heap.size w w1) := ⟨HS.out.below hb1, belowN HB.out hb1⟩
  have c1 : w1.cell? ⟨j, 1, none⟩ = some (.int .i64 J.roll) := (HS1.out.1.jn.cell 1).trans rfl
  have c2 : w1.cell? ⟨j, 2, none⟩ = some (.int .i64 J.num) := (HS1.out.1.jn.cell 2).trans rfl
  have c3 : w1.cell? ⟨j, 3, none⟩ = some (.int .i64 J.size) := (HS1.out.1.jn.cell 3).trans rfl
  have c4 : w1.cell? ⟨j, 4, none⟩ = some (.bool J.cut) := (HS1.out.1.jn.cell 4).trans rfl
  clear HE HS HB hb1 x0 x1 x2 x3 x4 x5
  go_upto_region 2 with (fail)
  go_cut [32] from 8 to 32 (fun v wx => v = .bool nb ∧ Below w1.heap.size w1 wx)
  case first =>
    by_cases g1 : J.num = 0
    · have g1b : ((J.num : Int) == 0) = true := by simp [g1]
      have HR : Hid (nb = true) := by show nb = true; rw [HN.out, g1]; rfl
      clear g1
      go_quiet (fail)
      go_wp2
      go_meet
      exact ⟨by rw [HR.out], below_drewN (Below.refl _ _) _⟩
    · have g1b : ((J.num : Int) == 0) = false := by simp [g1]
      cases g2 : J.cut
      · rw [g2] at c4
        by_cases g3 : (J.roll : Int) < (J.size : Int) + (t.size : Int)
        · have HR : Hid (nb = true) := by show nb = true; rw [HN.out, g2]; simp; omega
          clear g1 g2
          go_quiet (fail)
          go_wp2
          go_meet
          exact ⟨by rw [HR.out], below_drewN (Below.refl _ _) _⟩
        · have HR : Hid (nb = false) := by show nb = false; rw [HN.out, g2]; simp; omega
          clear g1 g2
          go_quiet (fail)
          go_wp2
          go_meet
          exact ⟨by rw [HR.out], below_drewN (Below.refl _ _) _⟩
      · rw [g2] at c4
        have HR : Hid (nb = true) := by show nb = true; rw [HN.out, g2]; simp
        clear g1 g2
        go_quiet (fail)
        go_wp2
        go_meet
        exact ⟨by rw [HR.out], below_drewN (Below.refl _ _) _⟩
  case rest =>
    obtain ⟨rfl, hbx⟩ := hcut
    have HX : Hid (Side Z wc j d D J ∧ Below w.heap.size w wc) := ⟨HS1.out.1.below hbx, belowN HS1.out.2 hbx⟩
    clear HS1 hbx c1 c2 c3 c4 HN
    cases nb
    · have HJ2 : Hid (jappend D J t = R2) := HJ
      clear HJ H1 H2
      go_wp2_with fail
      refine (H3.out wc HX.out.1).mono ?_
      rintro e w2 ⟨rfl, h2, t2⟩
      go_wp2
      go_ret
      exact ⟨by rw [HJ2.out]; rfl, by rw [HJ2.out]; exact h2, (below_tr HX.out.2 _).trans t2⟩
    · go_wp2_with fail
      refine (H1.out wc HX.out.1 (hz.size HX.out.2.size)).mono ?_
      rintro e w2 ⟨rfl, h2, t2⟩
      cases qb
      · have HJ2 : Hid (jappend D J t = (false, qD, qJ)) := HJ
        clear HJ H2 H3
        go_wp2
        go_ret
        exact ⟨by rw [HJ2.out]; rfl, by rw [HJ2.out]; exact h2, (below_tr HX.out.2 _).trans t2⟩
      · have HJ2 : Hid (jappend D J t = R1) := HJ
        clear HJ H3
        go_wp2_with fail
        refine (H2.out w2 h2).mono ?_
        rintro e w3 ⟨rfl, h3, t3⟩
        go_wp2
        go_ret
        exact ⟨by rw [HJ2.out]; rfl, by rw [HJ2.out]; exact h3, ((below_tr HX.out.2 _).trans t2).trans t3⟩
end Go.Proofs.YtilkdeghknjjhaaGreatDoor
