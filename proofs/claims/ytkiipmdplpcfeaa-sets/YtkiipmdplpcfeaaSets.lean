/- Sets (P5): Update and Discard of any sets and clocks answer as the document's own answer does; what comes out is the caller's own; what was handed in reads as it did. No condition. -/
import Derived.Test.YtkiipmdplpcfeaaRows
import Derived.Test.YtkiipmdplpcfeaaSI
import Derived.WalkKit
import Derived.ProofKit
import Derived.OpenShut
import Derived.ShutString
import Derived.ChangeOld
import Derived.Below
import Derived.SizedLaws
import Derived.Deep.SlicePairs
import Derived.Deep.Strs
import Derived.Lib.SmallJoins
namespace Go.Proofs.Ytkiipmdplpcfeaa.SetsRow
open Go.ChangeShapes Go.WideShapes Go.ChangeAt Go.RowKit Go.Deep Go.Joins
open Go.ChangeMaps (open_string shut_string)
set_option linter.unusedVariables false

theorem own : ownKnob Try.prog.godebug = none := by kernel_rfl
theorem laidOut : laidOutB Try.prog = true := by kernel_rfl
theorem bytes52 : Try.prog.bytesOf 52 = 16 := by kernel_rfl
theorem bytes57 : Try.prog.bytesOf 57 = 32 := by kernel_rfl
theorem cells52 : Try.prog.cellsOf 52 = 2 := by kernel_rfl
theorem cells57 : Try.prog.cellsOf 57 = 3 := by kernel_rfl
theorem cells38 : Try.prog.cellsOf 38 = 2 := by kernel_rfl
theorem cells3 : Try.prog.cellsOf 3 = 1 := by kernel_rfl
theorem cells9 : Try.prog.cellsOf 9 = 1 := by kernel_rfl

/-- A slice of entries that came in reads as some list. -/
theorem open_entries {H : Type} {enc : TypeId × Value → H} {W : World} {fuel : Nat} {a0 : Option Addr} {len cap : Nat} {x : DataW H × List MemPlace}
    (hf : DataW.trod enc Try.prog W 0 (fun _ => true) true fuel 22 [.slice a0 len cap] = some x) :
    ∃ A, Rd W (.slice a0 len cap) A ∧ (A = [] ∨ ∃ elems spare, x.1 = .slice elems spare ∧ elems.length = A.length) := by
  rcases open_slice_pairs Try.underlying22 Try.underlying52 cells52 rfl rfl cells3 cells3 hf with ⟨hcs, hx⟩ | ⟨a, len', cap', m, n, V0, V1, D0, D1, P0, P1, hcs, hb, hl, hm, hmm, hx, hc⟩
  · simp at hcs
    obtain ⟨rfl, rfl, rfl⟩ := hcs
    exact ⟨[], Rd.nil W, .inl rfl⟩
  · simp at hcs
    obtain ⟨rfl, rfl, rfl⟩ := hcs
    have hlm : len ≤ m := by rw [hmm]; split <;> omega
    have hi : ∀ i, i < len → ∃ q : Int × Int, W.cell? (a.add (i * 2)) = some (.int .i64 q.1) ∧ W.cell? (a.add (i * 2 + 1)) = some (.int .i64 q.2) := by
      intro i hi
      obtain ⟨c0, c1, t0, t1⟩ := hc i (by omega)
      obtain ⟨n0, e0, _, _⟩ := DataW.trod_int Try.underlying3 t0
      obtain ⟨n1, e1, _, _⟩ := DataW.trod_int Try.underlying3 t1
      simp at e0 e1
      exact ⟨(n0, n1), by rw [c0, e0], by rw [c1, e1]⟩
    obtain ⟨q, hq⟩ := choose_lt hi
    have hlen : ((List.range len).map q).length = len := by simp
    refine ⟨(List.range len).map q, ⟨some a, cap, by rw [hlen], by rw [hlen]; exact hl, by unfold maxLen at hm; omega, fun h0 => ?_⟩, .inr ⟨(List.range len).map fun i => DataW.agg [D0 i, D1 i], (List.range (m - len)).map fun j => DataW.agg [D0 (len + j), D1 (len + j)], by rw [hx], by simp⟩⟩
    rw [hlen] at h0
    obtain ⟨b, off, spot⟩ := a
    have h1 := (hq 0 h0).1
    have hspot : spot = none := by simpa [Addr.add] using World.cell?_spot h1
    subst hspot
    refine ⟨b, off, rfl, fun j hj => ?_⟩
    rw [hlen] at hj
    have he : M.ent ((List.range len).map q) j = q j := by
      rw [ent_get _ _ (by rw [hlen]; exact hj)]; simp
    rw [he]
    have h2 := hq j hj
    rw [Addr.add_lit, Addr.add_lit] at h2
    exact h2
/-- A slice of values that came in reads as some list. -/
theorem open_values {H : Type} {enc : TypeId × Value → H} {W : World} {fuel : Nat} {a0 : Option Addr} {len cap : Nat} {x : DataW H × List MemPlace}
    (hf : DataW.trod enc Try.prog W 0 (fun _ => true) true fuel 36 [.slice a0 len cap] = some x) :
    ∃ A, RdS W (.slice a0 len cap) A ∧ (A = [] ∨ ∃ elems spare, x.1 = .slice elems spare ∧ elems.length = A.length) := by
  rcases open_slice Try.underlying36 hf with ⟨hcs, hx⟩ | ⟨a, len', cap', m, n, D, Pl, hcs, hb, hl, hm, hmm, hx, hc⟩
  · simp at hcs
    obtain ⟨rfl, rfl, rfl⟩ := hcs
    exact ⟨[], RdS.nil W, .inl rfl⟩
  · simp at hcs
    obtain ⟨rfl, rfl, rfl⟩ := hcs
    have hlm : len ≤ m := by rw [hmm]; split <;> omega
    have hi : ∀ i, i < len → ∃ q : Sb, W.cell? (a.add (i * 3)) = some (.int .i64 q.n) ∧ W.cell? (a.add (i * 3 + 1)) = some (.int .i64 q.c) ∧ W.cell? (a.add (i * 3 + 2)) = some (.string q.v) := by
      intro i hi
      obtain ⟨cs', h1, h2⟩ := hc i (by omega)
      rw [cells57] at h1
      obtain ⟨_, hlen, hcell⟩ := World.cells?_some h1
      obtain ⟨y0, y1, y2, k, _, _, t0, t1, t2⟩ := trod_struct3 Try.underlying57 h2
      match cs', hlen with
      | [v0, v1, v2], _ =>
        simp [cells3, cells9] at t0 t1 t2
        obtain ⟨n0, e0, _, _⟩ := DataW.trod_int Try.underlying3 t0
        obtain ⟨n1, e1, _, _⟩ := DataW.trod_int Try.underlying3 t1
        obtain ⟨n2, e2, _, _⟩ := DataW.trod_string Try.underlying9 t2
        simp at e0 e1 e2
        have g0 := hcell 0 (by omega)
        have g1 := hcell 1 (by omega)
        have g2 := hcell 2 (by omega)
        rw [add_add] at g0 g1 g2
        exact ⟨⟨n0, n1, n2⟩, by simpa [e0] using g0, by simpa [e1] using g1, by simpa [e2] using g2⟩
    have inh : Inhabited Sb := ⟨Sb.z⟩
    obtain ⟨q, hq⟩ := choose_lt hi
    have hlen : ((List.range len).map q).length = len := by simp
    refine ⟨(List.range len).map q, ⟨some a, cap, by rw [hlen], by rw [hlen]; exact hl, by unfold maxLen at hm; omega, fun h0 => ?_⟩, .inr ⟨_, _, by rw [hx], by simp⟩⟩
    rw [hlen] at h0
    obtain ⟨b, off, spot⟩ := a
    have h1 := (hq 0 h0).1
    have hspot : spot = none := by simpa [Addr.add] using World.cell?_spot h1
    subst hspot
    refine ⟨b, off, rfl, fun j hj => ?_⟩
    rw [hlen] at hj
    have he : sb ((List.range len).map q) j = q j := by
      rw [sb_get _ _ (by rw [hlen]; exact hj)]; simp
    rw [he]
    have h2 := hq j hj
    rw [Addr.add_lit, Addr.add_lit, Addr.add_lit] at h2
    exact h2

set_option maxRecDepth 100000 in
theorem lifted (os : Os) (started : os.Started) (H : Type) (enc : TypeId × Value → H) :
    ReturnsInHanded {} Try.checked os 4 .any (Rows.setsSpec.pre6 enc Try.prog Try.f4 Rows.setsRow.domain false) (Rows.setsSpec.post enc Try.prog Try.f4 false true false false) := by
  refine returnsInHanded_of_change_sized (C := Try.checked) own started (by kernel_rfl) Try.func4
    (ChangeSpec.witness6 (enc := enc) (C := Try.checked) false ⟨#[], #[.agg #[.slice none 0 0, .slice none 0 0], .slice none 0 0, .int .i64 0, .int .i64 0, .string ByteArray.empty], []⟩ 8 (by kernel_rfl) (by kernel_rfl) (by kernel_rfl) (by kernel_rfl)) ?_
  intro W base args ds gs before hval0 hW hcnd hsz0 _
  have hsz : (DataW.weightsEach Try.prog (Try.f4.params.toList ++ Rows.setsSpec.plain.varTypes Try.prog) (ds ++ gs)).all (· ≤ reachBytes) = true := hsz0
  clear hsz0
  have hval : ∀ (j : Nat) t v, Try.f4.params[j]? = some t → args[j]? = some v → Value.okWide Try.prog W .any base t v := hval0
  have hW' := hW
  obtain ⟨p, q, hA0, hV, rfl, hfz, hnd⟩ := hW
  have hA : DataW.TrodAll enc Try.prog W 0 (fun _ => true) true Try.f4.params.toList args.toList ds p := hA0
  rw [Try.params4] at hA hval hsz
  obtain ⟨v0, vs0, d0, ds0, p0, q0, hargs, rfl, rfl, h0, r0⟩ := trodAll_cons hA
  obtain ⟨v1, vs1, d1, ds1, p1, q1, rfl, rfl, rfl, h1, r1⟩ := trodAll_cons r0
  obtain ⟨v2, vs2, d2, ds2, p2, q2, rfl, rfl, rfl, h2, r2⟩ := trodAll_cons r1
  obtain ⟨v3, vs3, d3, ds3, p3, q3, rfl, rfl, rfl, h3, r3⟩ := trodAll_cons r2
  obtain ⟨v4, vs4, d4, ds4, p4, q4, rfl, rfl, rfl, h4, r4⟩ := trodAll_cons r3
  obtain ⟨rfl, rfl, rfl⟩ := trodAll_nil r4
  obtain rfl : args = #[v0, v1, v2, v3, v4] := by cases args; simp_all
  obtain ⟨rfl, rfl⟩ := trodVars_none hV
  have k0 := h0
  have lt0 : ∀ x ∈ p0, x.block < W.heap.size := by obtain ⟨m, hm⟩ := k0; exact DataW.trod_lt m _ _ _ hm
  obtain ⟨f0, f1, y0, y1, fuel, rfl, hd0, hp0, hy0, hy1⟩ := open_agg2 Try.underlying38 (by kernel_rfl) cells38 (hval 0 38 v0 rfl rfl) h0
  obtain ⟨b0, len0, cap0, hb0⟩ := slice_form Try.underlying22 hy0
  obtain ⟨b1, len1, cap1, hb1⟩ := slice_form Try.underlying36 hy1
  simp only [List.cons.injEq, and_true] at hb0 hb1
  subst hb0 hb1
  obtain ⟨a1, len2, cap2, rfl⟩ := okWide_slice Try.underlying22 (hval 1 22 v1 rfl rfl)
  obtain ⟨a2, rfl, rfl, rfl, w2⟩ := open_int Try.underlying3 (hval 2 3 v2 rfl rfl) h2
  obtain ⟨a3, rfl, rfl, rfl, w3⟩ := open_int Try.underlying3 (hval 3 3 v3 rfl rfl) h3
  obtain ⟨a4, rfl, rfl, rfl, w4⟩ := open_string Try.underlying9 (hval 4 9 v4 rfl rfl) h4
  have k1 := h1
  have lt1 : ∀ x ∈ p1, x.block < W.heap.size := by obtain ⟨m, hm⟩ := k1; exact DataW.trod_lt m _ _ _ hm
  have hsz2 : (DataW.weightsEach Try.prog [22, 36] [y0.1, y1.1]).all (· ≤ reachBytes) = true := by
    rw [List.all_eq_true] at hsz ⊢
    intro z hz
    refine hsz z (DataW.weights_mem_each (j := 0) (t := 38) (d := d0) rfl rfl z ?_)
    rw [hd0]
    simpa [DataW.weights, Try.underlying38] using hz
  have g0 : ∃ A, Rd W (.slice b0 len0 cap0) A ∧ A.length ≤ 8796093022208 := by
    obtain ⟨A, hr, he⟩ := open_entries hy0
    refine ⟨A, hr, ?_⟩
    rcases he with rfl | ⟨elems, spare, he, hl⟩
    · simp
    · have := sized_slice hsz2 (j := 0) (t := 22) (e := 52) rfl (by rw [he]; rfl) Try.underlying22
      rw [bytes52] at this
      simp only [reachBytes] at this
      omega
  have g1 : ∃ A, RdS W (.slice b1 len1 cap1) A ∧ A.length ≤ 4398046511104 := by
    obtain ⟨A, hr, he⟩ := open_values hy1
    refine ⟨A, hr, ?_⟩
    rcases he with rfl | ⟨elems, spare, he, hl⟩
    · simp
    · have := sized_slice hsz2 (j := 1) (t := 36) (e := 57) rfl (by rw [he]; rfl) Try.underlying36
      rw [bytes57] at this
      simp only [reachBytes] at this
      omega
  have g2 : ∃ A, Rd W (.slice a1 len2 cap2) A ∧ A.length ≤ 8796093022208 := by
    obtain ⟨fuel, hf⟩ := h1
    obtain ⟨A, hr, he⟩ := open_entries (x := (d1, p1)) (by simpa [Value.cells] using hf)
    refine ⟨A, hr, ?_⟩
    rcases he with rfl | ⟨elems, spare, he, hl⟩
    · simp
    · simp only at he
      subst he
      have := sized_slice hsz (j := 1) (t := 22) (e := 52) rfl rfl Try.underlying22
      rw [bytes52] at this
      simp only [reachBytes] at this
      omega
  obtain ⟨A, hA1, hA2⟩ := g0
  obtain ⟨L, hL1, hL2⟩ := g1
  obtain ⟨B, hB1, hB2⟩ := g2
  clear hA0 hval0
  refine (Sets_any _ _ _ A B L a2 a3 a4 W hA1 hL1 hB1 hA2 hL2 hB2).mono fun e W' ⟨he, bel⟩ => ?_
  subst he
  exact ⟨_, rfl, _, _, _, [], _, [], hW', trodAll_mk1 (shut_bool Try.underlying4 _), (trodAll_cons_mk (Below.trod laidOut (by kernel_rfl) (of_decide_eq_true (by kernel_rfl)) k0 bel lt0) (trodAll_cons_mk (Below.trod laidOut (by kernel_rfl) (of_decide_eq_true (by kernel_rfl)) k1 bel lt1)
    (trodAll_cons_mk (shut_int Try.underlying3 w2) (trodAll_cons_mk (shut_int Try.underlying3 w3) (trodAll_cons_mk (shut_string Try.underlying9 w4) trodAll_mk0))))), rfl, bel.frame _, fun h => by cases h⟩

theorem over : Rows.setsRow.holds Try.pinned (OpenSpec.ofChange Rows.setsSpec) :=
  OpenClaim.holds_of_wide 4 Try.f4 rfl rfl rfl rfl rfl rfl rfl ⟨rfl, rfl, rfl, rfl, rfl⟩ rfl rfl rfl rfl rfl (by kernel_rfl) Try.func4 (by kernel_rfl)
    (of_decide_eq_true (by kernel_rfl)) (by unfold Func.isWrapper; first | (rw [if_pos (by decide +kernel)]; kernel_rfl) | (rw [if_neg (by decide +kernel)]; exact ⟨rfl, rfl⟩))
    (fun os started H enc _ => lifted os started H enc)

theorem proved : Rows.SetsSaid := over
#print axioms proved
end Go.Proofs.Ytkiipmdplpcfeaa.SetsRow
