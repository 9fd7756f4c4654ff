/- Discard. -/
import Derived.Test.YtkiipmdplpcfeaaZ3
import Derived.WalkKit
import Derived.WalkSpells
import Derived.WalkLawsBesides
namespace Go.Proofs.Ytkiipmdplpcfeaa
open Go.RowKit M
set_option linter.unusedVariables false

theorem info38 : (Try.prog.info? 38).map (·.size) = some 2 := by kernel_rfl
theorem results27 (tmps : Array Value) (w : World) (g : Nat) (v1 v2 : Value) (n : Int) (h2 : tmps.getD 4 undef = .pointer (some ⟨g, 0, none⟩)) (h3 : tmps.getD 5 undef = .int .i64 n) (hg : w.heap[g]? = some (.cells #[v1, v2] 38 (0, 0))) :
    (results Try.f27 tmps).run Try.prog w = .ok (.tuple #[.agg #[v1, v2], .int .i64 n]) w := by
  have hl := run_loadVar_row (P := Try.prog) w g 38 38 #[v1, v2] (0, 0) _ hg Try.underlying38 rfl info38
  have h2' : tmps[4]?.getD undef = .pointer (some ⟨g, 0, none⟩) := by simpa using h2
  have h3' : tmps[5]?.getD undef = .int .i64 n := by simpa using h3
  simp [results, Try.results27, h2', h3', asAddr, hl]
/-- The place of a result, as it is made. -/
def nilSet : Array Value := #[.slice none 0 0, .slice none 0 0]
theorem one_two (a : Option Addr) (n c : Nat) (a' : Option Addr) (n' c' : Nat) : (#[Value.slice a n c, Value.slice a' n' c'] : Array Value).all (·.oneCell') = true := by simp [Value.oneCell']
theorem one_nilSet : nilSet.all (·.oneCell') = true := one_two _ _ _ _ _ _
theorem own_shape {w : World} {B n : Nat} {e : TypeId} {size : Nat} {v : Value} {xs : List Value} (h : w.ownsRow B e size v n xs) : ∃ a cap, v = .slice a n cap := by
  rcases h.2 with ⟨h1, h2⟩ | ⟨g, cap, cur, h1, _⟩
  · exact ⟨none, 0, by rw [h1, h2]⟩
  · exact ⟨_, _, h1⟩
theorem heap_later {w w' : World} {k : Nat} {o : Obj} (hb : Below w.heap.size w w') (h : w.heap[k]? = some o) : w'.heap[k]? = some o :=
  (hb.block k (Array.getElem?_eq_some_iff.1 h).1).trans h

/-- A store into a row of another type leaves a row as it is. -/
theorem own_setRow {w : World} {B n k : Nat} {e t : TypeId} {size : Nat} {v : Value} {xs : List Value} {old new : Array Value} (h : w.ownsRow B e size v n xs) (hk : w.heap[k]? = some (.cells old t (0, 0))) (hne : e ≠ t) : (w.setRow k new).ownsRow B e size v n xs := by
  refine ⟨h.1, ?_⟩
  rcases h.2 with hn | ⟨g, cap, cur, rfl, h1, h2, rest⟩
  · exact .inl hn
  · refine .inr ⟨g, cap, cur, rfl, h1, ?_, rest⟩
    rw [setRow_other w k g new (fun hh => by subst hh; rw [hk] at h2; simp at h2; exact hne h2.2.symm)]
    exact h2

/-- What is handed back with an error. -/
def setErr (n : Int) : Ending := .returned (.tuple #[.agg #[.slice none 0 0, .slice none 0 0], .int .i64 n])
/-- A set of the call's own is handed back. -/
def setOut (w : World) (c : List (Int × Int)) (l : List Sb) (e : Ending) (w' : World) : Prop :=
  ∃ v1 v2, e = .returned (.tuple #[.agg #[v1, v2], .int .i64 0]) ∧ w'.ownsRow w.heap.size 52 2 v1 c.length (cellsE c) ∧ w'.ownsRow w.heap.size 57 3 v2 l.length (cellsS l)
def DisEnd (w : World) (sc c : List (Int × Int)) (l : List Sb) (e : Ending) (w' : World) : Prop :=
  Below w.heap.size w w' ∧
  ((¬ (SetOK sc l ∧ Clk c) ∧ e = setErr 1) ∨
   (SetOK sc l ∧ Clk c ∧ 8 < (jn [sc, c]).length ∧ e = setErr 5) ∨
   (SetOK sc l ∧ Clk c ∧ (jn [sc, c]).length ≤ 8 ∧ setOut w (jn [sc, c]) (un c l) e w'))

set_option maxRecDepth 40000 in
set_option maxHeartbeats 1600000 in
theorem Discard_any (vs v vc : Value) (sc c : List (Int × Int)) (l : List Sb) (w : World) (hrs : Rd w vs sc) (hrd : RdS w v l) (hrc : Rd w vc c) :
    Calls Try.prog 27 #[.agg #[vs, v], vc] w fun e w' => DisEnd w sc c l e w' := by
  obtain ⟨ps, caps, rfl⟩ := hrs.shape
  obtain ⟨a, cap, rfl⟩ := hrd.shape
  obtain ⟨ac, capc, rfl⟩ := hrc.shape
  go_enter Try.func27, Try.ntmps27
  go_wp2_with fail
  obtain ⟨W, hW, hb, t0, t1, rg⟩ : ∃ W, ((w.alloc (.cells #[.slice ps sc.length caps, .slice a l.length cap] 38)).alloc (.cells #[.slice none 0 0, .slice none 0 0] 38)) = W ∧ Below w.heap.size w W ∧
      W.cell? ⟨w.heap.size, 0, none⟩ = some (.slice ps sc.length caps) ∧ W.cell? ⟨w.heap.size, 1, none⟩ = some (.slice a l.length cap) ∧
      W.heap[w.heap.size + 1]? = some (.cells nilSet 38 (0, 0)) :=
    ⟨_, rfl, ((Below.refl _ _).alloc (Nat.le_refl _) _).alloc (by simp) _, by simp [go_sem], by simp [go_sem], heap_alloc2_new w _ _⟩
  rw [hW]
  refine (isSet_any _ _ sc l W (hrs.below hb) (hrd.below hb)).mono ?_
  rintro e w1 ⟨r, rfl, hr, hb2⟩
  have hb1 : Below w.heap.size w w1 := hb.trans (hb2.mono hb.size)
  have e0 := cell_later hb2 t0
  have e1 := cell_later hb2 t1
  have HG : Hid (w1.heap[w.heap.size + 1]? = some (.cells nilSet 38 (0, 0))) := heap_later hb2 rg
  have hrd1 := hrd.below hb1
  have hrs1 := hrs.below hb1
  have hrc1 := hrc.below hb1
  have hs1 := hb1.size
  clear t0 t1 rg hW hb hb2 hrc hrd hrs
  cases r
  · have HN : Hid (¬ (SetOK sc l ∧ Clk c)) := fun h => Bool.noConfusion (hr.2 h.1)
    clear hr hrd1 hrc1 hrs1
    go_wp2_with (first
      | (refine wpList_store_row rfl 38 _ _ rfl (w.heap.size + 1) nilSet rfl rfl 38 nilSet HG.out info38 rfl one_nilSet ?_))
    refine bodyPost_ret (results27 _ _ (w.heap.size + 1) _ _ 1 rfl rfl (setRow_heap _ _ _ _ _ _ HG.out)) rfl ⟨below_setRow hb1 (by omega) _, .inl ⟨HN.out, rfl⟩⟩
  have hk : SetOK sc l := hr.1 rfl
  have HK : Hid (SetOK sc l) := hk
  clear hr hk
  go_wp2_with fail
  refine (isClock_any _ c w1 hrc1).mono ?_
  rintro e w2 ⟨r, rfl, hr, hb2⟩
  have hb3 : Below w.heap.size w w2 := hb1.trans (hb2.mono hs1)
  have f0 := cell_later hb2 e0
  have f1 := cell_later hb2 e1
  have HG2 : Hid (w2.heap[w.heap.size + 1]? = some (.cells nilSet 38 (0, 0))) := heap_later hb2 HG.out
  have hrd2 := hrd1.below hb2
  have hrs2 := hrs1.below hb2
  have hrc2 := hrc1.below hb2
  have hs2 := hb3.size
  clear hb2 hrd1 hrs1 hrc1 HG e0 e1 hs1 hb1
  cases r
  · have HN : Hid (¬ (SetOK sc l ∧ Clk c)) := fun h => Bool.noConfusion (hr.2 h.2)
    clear hr hrd2 hrc2 hrs2
    go_wp2_with (first
      | (refine wpList_store_row rfl 38 _ _ rfl (w.heap.size + 1) nilSet rfl rfl 38 nilSet HG2.out info38 rfl one_nilSet ?_))
    refine bodyPost_ret (results27 _ _ (w.heap.size + 1) _ _ 1 rfl rfl (setRow_heap _ _ _ _ _ _ HG2.out)) rfl ⟨below_setRow hb3 (by omega) _, .inl ⟨HN.out, rfl⟩⟩
  have hk : Clk c := hr.1 rfl
  have HK2 : Hid (Clk c) := hk
  clear hr hk
  go_wp2_with fail
  have hba : Below w2.heap.size w2 (w2.alloc (.cells #[.slice ps sc.length caps, .slice ac c.length capc] 22)) := (Below.refl _ _).alloc (Nat.le_refl _) _
  refine (join_any w2.heap.size 2 [sc, c] _ rfl (by decide) (fun j hj => ?_)).mono ?_
  · match j, hj with
    | 0, _ => exact ⟨_, by simp [go_sem], hrs2.below hba, HK.out.1.2⟩
    | 1, _ => exact ⟨_, by simp [go_sem], hrc2.below hba, HK2.out.2⟩
  rintro e w3 ⟨hb4, ⟨h8, rfl⟩ | ⟨h8, v3, rfl, ho⟩⟩
  · have hb5 := hb3.trans ((hba.trans (hb4.mono (by simp))).mono hs2)
    have HG3 : Hid (w3.heap[w.heap.size + 1]? = some (.cells nilSet 38 (0, 0))) := heap_later (hba.trans (hb4.mono (by simp))) HG2.out
    have H8 : Hid (8 < (jn [sc, c]).length) := h8
    clear h8 hba hb4 hrs2 hrc2 hrd2 HG2
    go_wp2_with (first
      | (refine wpList_store_row rfl 38 _ _ rfl (w.heap.size + 1) nilSet rfl rfl 38 nilSet HG3.out info38 rfl one_nilSet ?_))
    refine bodyPost_ret (results27 _ _ (w.heap.size + 1) _ _ 5 rfl rfl (setRow_heap _ _ _ _ _ _ HG3.out)) rfl ⟨below_setRow hb5 (by omega) _, .inr (.inl ⟨HK.out, HK2.out, H8.out, rfl⟩)⟩
  · have hb6 := hba.trans (hb4.mono (by simp))
    have hb5 := hb3.trans (hb6.mono hs2)
    have HG3 : Hid (w3.heap[w.heap.size + 1]? = some (.cells nilSet 38 (0, 0))) := heap_later hb6 HG2.out
    have H8 : Hid ((jn [sc, c]).length ≤ 8) := h8
    have g0 := cell_later hb6 f0
    have g1 := cell_later hb6 f1
    have hrd3 := hrd2.below hb6
    have hrc3 := hrc2.below hb6
    have hs3 := hb5.size
    have ho2 := own_base (B := w.heap.size) ho (by simp; omega)
    obtain ⟨a3, cap3, rfl⟩ := own_shape ho2
    have HO : Hid (w3.ownsRow w.heap.size 52 2 (.slice a3 (jn [sc, c]).length cap3) (jn [sc, c]).length (cellsE (jn [sc, c]))) := ho2
    clear h8 hba hb4 hrs2 hrc2 hrd2 HG2 ho ho2 hb6 f0 f1
    go_wp2_with fail
    refine (unseen_any _ _ l c w3 hrd3 hrc3 (clk_us' HK2.out) (by have := HK.out.2.1; omega) (fun x hx => by
      obtain ⟨i, hi, rfl⟩ := List.getElem_of_mem hx
      have := (HK.out.2.2 i hi).1.2.2.1
      rw [sb_get l i hi] at this
      exact this)).mono ?_
    rintro e w4 ⟨v4, rfl, ho4, hb7⟩
    have hb8 := hb5.trans (hb7.mono hs3)
    have HG4 : Hid (w4.heap[w.heap.size + 1]? = some (.cells nilSet 38 (0, 0))) := heap_later hb7 HG3.out
    have ho5 := ownsRow_below HO.out hb7
    have ho6 := own_base (B := w.heap.size) ho4 hs3
    obtain ⟨a4, cap4, rfl⟩ := own_shape ho6
    have HO5 : Hid (w4.ownsRow w.heap.size 52 2 (.slice a3 (jn [sc, c]).length cap3) (jn [sc, c]).length (cellsE (jn [sc, c]))) := ho5
    have HO6 : Hid (w4.ownsRow w.heap.size 57 3 (.slice a4 (un c l).length cap4) (un c l).length (cellsS (un c l))) := ho6
    clear hb7 ho4 ho5 ho6 g0 g1 hrd3 hrc3
    go_wp2_with (first
      | (refine wpList_store_row rfl 38 _ _ rfl (w.heap.size + 1) #[.slice a3 (jn [sc, c]).length cap3, .slice a4 (un c l).length cap4] rfl rfl 38 nilSet HG4.out info38 rfl (one_two _ _ _ _ _ _) ?_))
    refine bodyPost_ret (results27 _ _ (w.heap.size + 1) _ _ 0 rfl rfl (setRow_heap _ _ _ _ _ _ HG4.out)) rfl ⟨below_setRow hb8 (by omega) _, .inr (.inr ⟨HK.out, HK2.out, H8.out, _, _, rfl, ?_, ?_⟩)⟩
    · exact own_setRow HO5.out HG4.out (by decide)
    · exact own_setRow HO6.out HG4.out (by decide)
end Go.Proofs.Ytkiipmdplpcfeaa
