/- sameSet. -/
import Derived.Test.YtkiipmdplpcfeaaW
import Derived.Test.YtkiipmdplpcfeaaZ4
import Derived.WalkKit
import Derived.WalkSpells
import Derived.WalkLawsBesides
namespace Go.Proofs.Ytkiipmdplpcfeaa
open Go.RowKit M
set_option linter.unusedVariables false

set_option maxRecDepth 20000 in
set_option maxHeartbeats 800000 in
theorem sameSet_any (v1 v2 u1 u2 : Value) (c d : List (Int × Int)) (l m : List Sb) (w : World) (h1 : Rd w v1 c) (h2 : RdS w v2 l) (h3 : Rd w u1 d) (h4 : RdS w u2 m) :
    Calls Try.prog 25 #[.agg #[v1, v2], .agg #[u1, u2]] w fun e w' => BoolEnd (c = d ∧ l = m) w e w' := by
  obtain ⟨p1, q1, rfl⟩ := h1.shape
  obtain ⟨p2, q2, rfl⟩ := h2.shape
  obtain ⟨p3, q3, rfl⟩ := h3.shape
  obtain ⟨p4, q4, rfl⟩ := h4.shape
  go_enter Try.func25, Try.ntmps25
  go_wp2_with fail
  obtain ⟨W, hW, hb, t1, t3⟩ : ∃ W, ((w.alloc (.cells #[.slice p1 c.length q1, .slice p2 l.length q2] 38)).alloc (.cells #[.slice p3 d.length q3, .slice p4 m.length q4] 38)) = W ∧ Below w.heap.size w W ∧
      W.cell? ⟨w.heap.size, 1, none⟩ = some (.slice p2 l.length q2) ∧ W.cell? ⟨w.heap.size + 1, 1, none⟩ = some (.slice p4 m.length q4) :=
    ⟨_, rfl, ((Below.refl _ _).alloc (Nat.le_refl _) _).alloc (by simp) _, by simp [go_sem], by simp [go_sem]⟩
  rw [hW]
  refine (sameClock12_any _ _ c d W (h1.below hb) (h3.below hb)).mono ?_
  rintro e w1 ⟨r, rfl, hr, hb2⟩
  have hb1 : Below w.heap.size w w1 := hb.trans (hb2.mono hb.size)
  have e1 := cell_later hb2 t1
  have e3 := cell_later hb2 t3
  have g2 := h2.below hb1
  have g4 := h4.below hb1
  have hs1 := hb1.size
  have HR : Hid (r = true ↔ c = d) := hr
  clear t1 t3 hW hb hb2 h1 h2 h3 h4 hr
  go_wp2_with fail
  refine (sameList_any _ _ l m w1 g2 g4).mono ?_
  rintro e w2 ⟨r2, rfl, hr2, hb3⟩
  have hb4 := hb1.trans (hb3.mono hs1)
  have HR2 : Hid (r2 = true ↔ l = m) := hr2
  clear hr2 hb3 e1 e3 g2 g4
  cases r
  · go_wp2
    go_ret
    exact BoolEnd.no (fun h => Bool.noConfusion (HR.out.2 h.1)) hb4
  · go_wp2
    go_ret
    exact ⟨r2, rfl, ⟨fun h => ⟨HR.out.1 trivial, HR2.out.1 h⟩, fun h => HR2.out.2 h.2⟩, hb4⟩
end Go.Proofs.Ytkiipmdplpcfeaa
