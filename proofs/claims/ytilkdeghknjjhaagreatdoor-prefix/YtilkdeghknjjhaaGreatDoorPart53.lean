/- A disk behind a crash. Plain facts. -/
import Derived.Test.YtilkdeghknjjhaaGreatDoorPart51
import Derived.Test.YtilkdeghknjjhaaGreatDoorPart47
import Derived.Test.YtilkdeghknjjhaaGreatDoorPart50
namespace Go.Proofs.YtilkdeghknjjhaaGreatDoor
open Go.RowKit M
set_option linter.unusedVariables false

theorem szs_le (fs : List Fl) : ∀ l : List Nm, (∀ x ∈ l, (fl fs x.f).d.size ≤ 100000) → szs fs l ≤ 100000 * l.length
  | [], _ => by simp [szs]
  | x :: r, h => by
    have ih := szs_le fs r fun y hy => h y (by simp [hy])
    have h1 := h x (by simp)
    show ((fl fs x.f).d.size : Int) + szs fs r ≤ _
    rw [List.length_cons]
    omega
theorem JD.bytes_le {D : Dk} {ms : List Mt} {k sz : Nat} {cut sy : Bool} {hd : Nat} (h : JD D ms k sz cut sy hd) (hk : D.files.length ≤ 100000000) : D.bytes ≤ 10000000000000 := by
  have hkf := h.kf
  obtain ⟨a, F, B, T, g1, _⟩ := h
  obtain ⟨l1, _⟩ := g1.lens (by omega)
  rw [bytes_sum]
  have := szs_le D.files D.now fun x hx => by
    obtain ⟨i, h1, h2, rfl⟩ := (g1.now x).1 hx
    exact g1.bnd i h1 h2
  rw [l1] at this
  omega
theorem crF_mem {files : List Fl} {l : List Nm} {keep : List Int} {m : Nat} (h : ∀ x ∈ files, x.d.size ≤ m) : ∀ i, ∀ x ∈ crF files l keep i, x.d.size ≤ m
  | 0, x, hx => h x hx
  | i + 1, x, hx => by
    have ih := crF_mem (l := l) (keep := keep) h i
    rcases mem_set_or hx with hx | rfl
    · exact ih x hx
    · show ((fl (crF files l keep i) (nm l i).f).d.extract 0 _).size ≤ m
      rw [ByteArray.size_extract]
      have h2 : (fl (crF files l keep i) (nm l i).f).d.size ≤ m := by
        by_cases hl : (nm l i).f < (crF files l keep i).length
        · rw [fl_get _ _ hl]; exact ih _ (List.getElem_mem _)
        · have : fl (crF files l keep i) (nm l i).f = Fl.z := by simp [fl, List.getD, List.getElem?_eq_none (Nat.le_of_not_lt hl)]
          rw [this]; simp [Fl.z]
      omega
/-- Behind a crash the disk is in order. -/
theorem JD.crash_ok {D : Dk} {ms : List Mt} {k sz : Nat} {cut sy : Bool} {hd n : Nat} (h : JD D ms k sz cut sy hd) (hw : D.WF) (hb : D.Bud n) (hkf : D.files.length ≤ 100000000) (keep : List Int) :
    D.CrOK keep ∧ (D.crash keep).WF ∧ (D.crash keep).Bud n ∧ (D.crash keep).Sound ∧ (D.crash keep).cap = D.cap ∧ (D.crash keep).files.length = D.files.length := by
  have hk := h.kf
  obtain ⟨a, F, B, T, g1, _⟩ := h
  have hak := g1.ak
  obtain ⟨l1, l2⟩ := g1.lens (by omega)
  have hst : D.steps.length = k - a := by rw [g1.steps]; simp
  have hkp := D.kept_le keep
  have hcr := fun q (hq : q ≤ k - a) => g1.crN (by omega) q hq
  obtain ⟨c1, c2, c3⟩ := hcr (D.kept keep) (by omega)
  have hlt : ∀ x ∈ crN D.safe D.steps (D.kept keep), x.f < D.files.length := fun x hx => by
    obtain ⟨i, i1, i2, rfl⟩ := (c3 x).1 hx
    exact g1.lt i i1 (by omega)
  have hfl : (crF D.files (crN D.safe D.steps (D.kept keep)) keep (crN D.safe D.steps (D.kept keep)).length).length = D.files.length := crF_len _ _ _ _
  refine ⟨⟨fun q hq => ?_, hlt, fun x hx => ?_, fun f => hw.ok.size f, hw.ok.lt⟩, ⟨⟨⟨by show (-1 : Int) ≤ _; omega, by show (-1 : Int) ≤ _; omega, hw.ok.fit.f0, hw.ok.fit.f1⟩, fun x hx => ?_, fun x hx => ?_, fun x hx => by simp [Dk.crash] at hx, ?_, ?_, by show 0 ≤ _; omega, ?_, ?_, hw.ok.c0, hw.ok.c1, fun hc x hx => ?_⟩, c1, fun x hx => ?_⟩, ⟨hb.f, ?_, ?_, ?_⟩, ⟨by show (-1 : Int) < 0; omega, by show (-1 : Int) < 0; omega⟩, rfl, hfl⟩
  · rw [(hcr q (by omega)).2.1]; omega
  · obtain ⟨i, i1, i2, rfl⟩ := (c3 x).1 hx
    exact g1.syk i i1 (by omega)
  · show x.f < (crF _ _ _ _).length
    rw [hfl]; exact hlt x hx
  · show x.f < (crF _ _ _ _).length
    rw [hfl]; exact hlt x hx
  · show (crN D.safe D.steps (D.kept keep)).length ≤ _
    rw [c2]; omega
  · show (crF _ _ _ _).length ≤ _
    rw [hfl]; omega
  · show (crN D.safe D.steps (D.kept keep)).length ≤ _
    rw [c2]; omega
  · exact fun x hx => crF_mem hw.ok.sz _ x hx
  · have := crF_mem (m := 0) (l := crN D.safe D.steps (D.kept keep)) (keep := keep) (fun x hx => by rw [hw.ok.neg hc x hx]; exact Nat.le_refl _) _ x hx
    omega
  · obtain ⟨i, i1, i2, rfl⟩ := (c3 x).1 hx
    exact fnm_ne i
  · show (crF _ _ _ _).length + n ≤ _
    rw [hfl]; exact hb.l
  · show 0 + n ≤ _
    have := hb.s; omega
  · show (crN D.safe D.steps (D.kept keep)).length + n ≤ _
    have := hb.n
    rw [c2]; omega
end Go.Proofs.YtilkdeghknjjhaaGreatDoor
