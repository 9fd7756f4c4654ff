/- What Beside's walk speaks of. -/
import Derived.Test.YtkiipmdplpcfeaaZ6
import Derived.Test.YtkiipmdplpcfeaaN2
import Derived.Test.YtkiipmdplpcfeaaP
import Derived.Test.YtkiipmdplpcfeaaW
import Derived.WalkKit
import Derived.WalkSpells
import Derived.WalkLawsBesides
import Derived.Deep.QuietTactic
import Derived.BigQuiet
import Derived.Deep.LoopGhost
import Derived.Deep.Cut
import Derived.Deep.CutRange
import Derived.Deep.DeepCutAuto
namespace Go.Proofs.Ytkiipmdplpcfeaa
open Go.RowKit M
set_option linter.unusedVariables false

/-- A slice of strings that reads as a list. -/
def RdT (w : World) (v : Value) (ss : List ByteArray) : Prop :=
  ∃ a cap, v = .slice a ss.length cap ∧ (0 < ss.length → ∃ b off, a = some ⟨b, off, none⟩ ∧ ∀ j, j < ss.length → w.cell? ⟨b, off + j, none⟩ = some (.string (ss.getD j ByteArray.empty)))
/-- A slice of numbers that reads as a list. -/
def RdI (w : World) (v : Value) (ks : List Int) : Prop :=
  ∃ a cap, v = .slice a ks.length cap ∧ (0 < ks.length → ∃ b off, a = some ⟨b, off, none⟩ ∧ ∀ j, j < ks.length → w.cell? ⟨b, off + j, none⟩ = some (.int .i64 (ks.getD j 0)))

/-- The set that Beside holds ahead of a round. -/
def SetAt (wr : World) (g : Nat) (n : Int) (k : Nat) : Prop :=
  ∃ a1 c1 sc a2 c2 L, wr.heap[g]? = some (.cells #[.slice a1 (List.length (α := Int × Int) sc) c1, .slice a2 (List.length (α := Sb) L) c2] 38 (0, 0)) ∧ Rd wr (.slice a1 sc.length c1) sc ∧ RdS wr (.slice a2 L.length c2) L ∧ Own1 sc n k ∧ LOK n k L

/-- What stands behind Update's call in Beside. -/
def AfterUpd (wx : World) (T : Nat) (er : Int) (n : Int) (k : Nat) (c : List (Int × Int)) (L : List Sb) (s : ByteArray) : Prop :=
  (er = 5 ∧ 6 < (un c L).length + 1 ∧ wx.cell? ⟨T, 1, none⟩ = some (.slice none 0 0)) ∨
  (er = 0 ∧ (un c L).length + 1 ≤ 6 ∧ ∃ a1 c1 sc a2 c2, wx.heap[T]? = some (.cells #[.slice a1 (List.length (α := Int × Int) sc) c1, .slice a2 ((un c L).length + 1) c2] 38 (0, 0)) ∧
    Rd wx (.slice a1 sc.length c1) sc ∧ RdS wx (.slice a2 ((un c L).length + 1) c2) (un c L ++ [Sb.mk n ((k : Int) + 1) s]) ∧ Own1 sc n ((k : Int) + 1) ∧ LOK n ((k : Int) + 1) (un c L ++ [Sb.mk n ((k : Int) + 1) s]))

theorem jn_nil {l : List (Int × Int)} (hl : US l) : jn [[], l] = l := by
  have h0 : US ([] : List (Int × Int)) := ⟨by simp, by simp⟩
  refine US_ext (US_jn (us2 h0 hl)) hl (fun m hm => ?_)
  rw [cS_jn2 h0 hl m hm]
  have := cS_nonneg l m
  show max 0 _ = _
  omega

theorem cell_setRow_away {w : World} {g b off : Nat} {new : Array Value} {u v1 v2 : Value} (hg : w.heap[g]? = some (.cells #[v1, v2] 38 (0, 0))) (h : w.cell? ⟨b, off, none⟩ = some u) (h1 : u ≠ v1) (h2 : u ≠ v2) : (w.setRow g new).cell? ⟨b, off, none⟩ = some u := by
  have hne : b ≠ g := by
    intro e
    subst e
    rw [cell_of_row _ _ _ _ _ _ hg] at h
    match off, h with
    | 0, h => exact h1 (by simpa using h.symm)
    | 1, h => exact h2 (by simpa using h.symm)
    | o + 2, h => simp at h
  unfold World.cell?
  simp only
  rw [setRow_other w g b new hne]
  exact h
theorem Rd.setRow {w : World} {g : Nat} {new : Array Value} {a1 a2 : Option Addr} {n1 c1 n2 c2 : Nat} {v : Value} {l : List (Int × Int)} (hg : w.heap[g]? = some (.cells #[.slice a1 n1 c1, .slice a2 n2 c2] 38 (0, 0))) (h : Rd w v l) : Rd (w.setRow g new) v l := by
  obtain ⟨a, cap, hv, hl, hc, h0⟩ := h
  refine ⟨a, cap, hv, hl, hc, fun hp => ?_⟩
  obtain ⟨b, off, ha, hr⟩ := h0 hp
  exact ⟨b, off, ha, fun j hj => ⟨cell_setRow_away hg (hr j hj).1 (by simp) (by simp), cell_setRow_away hg (hr j hj).2 (by simp) (by simp)⟩⟩
theorem RdS.setRow {w : World} {g : Nat} {new : Array Value} {a1 a2 : Option Addr} {n1 c1 n2 c2 : Nat} {v : Value} {l : List Sb} (hg : w.heap[g]? = some (.cells #[.slice a1 n1 c1, .slice a2 n2 c2] 38 (0, 0))) (h : RdS w v l) : RdS (w.setRow g new) v l := by
  obtain ⟨a, cap, hv, hl, hc, h0⟩ := h
  refine ⟨a, cap, hv, hl, hc, fun hp => ?_⟩
  obtain ⟨b, off, ha, hr⟩ := h0 hp
  exact ⟨b, off, ha, fun j hj => ⟨cell_setRow_away hg (hr j hj).1 (by simp) (by simp), cell_setRow_away hg (hr j hj).2.1 (by simp) (by simp), cell_setRow_away hg (hr j hj).2.2 (by simp) (by simp)⟩⟩
theorem SetAt.next {w : World} {g : Nat} {n : Int} {k : Nat} {a1 a2 p1 p2 : Option Addr} {n1 c1 n2 c2 q1 q2 : Nat} {sc : List (Int × Int)} {U : List Sb} {x : Sb} (hg : w.heap[g]? = some (.cells #[.slice a1 n1 c1, .slice a2 n2 c2] 38 (0, 0)))
    (hr1 : Rd w (.slice p1 sc.length q1) sc) (hr2 : RdS w (.slice p2 (U.length + 1) q2) (U ++ [x])) (ho1 : Own1 sc n ((k : Int) + 1)) (hlo1 : LOK n ((k : Int) + 1) (U ++ [x])) :
    SetAt (w.setRow g #[.slice p1 sc.length q1, .slice p2 (U.length + 1) q2]) g n (k + 1) := by
  have e : ((k + 1 : Nat) : Int) = (k : Int) + 1 := by omega
  have hl : (U ++ [x]).length = U.length + 1 := by simp
  unfold SetAt
  rw [e]
  refine ⟨p1, q1, sc, p2, q2, U ++ [x], ?_, hr1.setRow hg, ?_, ho1, hlo1⟩
  · rw [hl]; exact setRow_heap w g _ _ _ _ hg
  · rw [hl]; exact hr2.setRow hg
theorem sb_left (U : List Sb) (x : Sb) (i : Nat) (h : i < U.length) : sb (U ++ [x]) i = sb U i := by
  simp [sb, List.getD, List.getElem?_append_left h]
theorem sb_last (U : List Sb) (x : Sb) : sb (U ++ [x]) U.length = x := by
  simp [sb, List.getD]
/-- Where a list with one value more lies. -/
theorem RdS.more {w : World} {p : Option Addr} {q : Nat} {U : List Sb} {x : Sb} (h : RdS w (.slice p (U.length + 1) q) (U ++ [x])) : ∃ b off, p = some ⟨b, off, none⟩ ∧
    (∀ i, i < U.length → w.cell? ⟨b, off + i * 3, none⟩ = some (.int .i64 (sb U i).n) ∧ w.cell? ⟨b, off + i * 3 + 1, none⟩ = some (.int .i64 (sb U i).c) ∧ w.cell? ⟨b, off + i * 3 + 2, none⟩ = some (.string (sb U i).v)) ∧
    w.cell? ⟨b, off + U.length * 3, none⟩ = some (.int .i64 x.n) ∧ w.cell? ⟨b, off + U.length * 3 + 1, none⟩ = some (.int .i64 x.c) ∧ w.cell? ⟨b, off + U.length * 3 + 2, none⟩ = some (.string x.v) := by
  obtain ⟨a, c, hv, _, _, h0⟩ := h
  simp at hv
  obtain ⟨b, off, ha, hr⟩ := h0 (by simp)
  have hl := hr U.length (by simp)
  rw [sb_last] at hl
  refine ⟨b, off, by rw [hv.1, ha], fun i hi => ?_, hl⟩
  have := hr i (by simp; omega)
  rwa [sb_left U x i hi] at this
/-- Where the values of a slice lie. -/
theorem RdS.lies {w : World} {p : Option Addr} {n q : Nat} {U : List Sb} (h : RdS w (.slice p n q) U) : 0 < U.length → ∃ b off, p = some ⟨b, off, none⟩ ∧
    (∀ i, i < U.length → w.cell? ⟨b, off + i * 3, none⟩ = some (.int .i64 (sb U i).n) ∧ w.cell? ⟨b, off + i * 3 + 1, none⟩ = some (.int .i64 (sb U i).c) ∧ w.cell? ⟨b, off + i * 3 + 2, none⟩ = some (.string (sb U i).v)) := by
  obtain ⟨a, c, hv, _, _, h0⟩ := h
  simp at hv
  intro hp
  obtain ⟨b, off, ha, hr⟩ := h0 hp
  exact ⟨b, off, by rw [hv.1, ha], hr⟩
end Go.Proofs.Ytkiipmdplpcfeaa
