/- The plain facts behind the document's Update. -/
import Derived.Test.YtkiipmdplpcfeaaSD
namespace Go.Proofs.Ytkiipmdplpcfeaa
open Go.RowKit M
set_option linter.unusedVariables false

theorem cd_trans {x y z : Sb} (h : cd x y < 0) (k : cd y z < 0) : cd x z < 0 := by
  rw [cd_neg] at *
  omega
theorem cd_irr (x : Sb) : ¬ cd x x < 0 := by
  rw [cd_neg]
  omega
theorem cd_tri {x y : Sb} (h : ¬ cd x y < 0) (hne : ¬ (x.n = y.n ∧ x.c = y.c)) : cd y x < 0 := by
  rw [cd_neg] at *
  omega
theorem UpS.lt {c : List (Int × Int)} {l : List Sb} (h : UpS c l l.length) (i : Nat) : ∀ d, i + d + 1 < l.length → cd (sb l i) (sb l (i + d + 1)) < 0
  | 0, hd => by have := (h (i + 1) hd).2.2.2 (by omega); simpa using this
  | d + 1, hd => by
    have a := UpS.lt h i d (by omega)
    have b := (h (i + (d + 1) + 1) hd).2.2.2 (by omega)
    rw [show i + (d + 1) + 1 - 1 = i + d + 1 by omega] at b
    exact cd_trans a b
theorem UpS.pw {c : List (Int × Int)} {l : List Sb} (h : UpS c l l.length) : l.Pairwise (fun x y => cd x y < 0) := by
  refine List.pairwise_iff_getElem.2 fun i j hi hj hij => ?_
  obtain ⟨d, rfl⟩ : ∃ d, j = i + d + 1 := ⟨j - i - 1, by omega⟩
  have := h.lt i d hj
  rw [sb_get l i hi, sb_get l _ hj] at this
  exact this
theorem place_fn {U : List Sb} {x : Sb} {p q : Nat} (hs : U.Pairwise (fun x y => cd x y < 0)) (hp : Place U x p) (hq : Place U x q) : p = q := by
  have key : ∀ p q, Place U x p → Place U x q → ¬ p < q := by
    intro p q hp hq hlt
    have h1 := hp.2.2 (by have := hq.1; omega)
    have h2 := hq.2.1 (by omega)
    have hpl : p < U.length := by have := hq.1; omega
    have hql : q - 1 < U.length := by have := hq.1; omega
    by_cases e : p = q - 1
    · rw [e] at h1; omega
    · have h3 := List.pairwise_iff_getElem.1 hs p (q - 1) hpl hql (by omega)
      rw [sb_get U _ hpl] at h1
      rw [sb_get U _ hql] at h2
      have := cd_trans h3 h2
      omega
  have a := key p q hp hq
  have b := key q p hq hp
  omega
theorem un_append (c : List (Int × Int)) (a b : List Sb) : un c (a ++ b) = un c a ++ un c b := by simp [un]
theorem un_pw {c : List (Int × Int)} {l : List Sb} (h : l.Pairwise (fun x y => cd x y < 0)) : (un c l).Pairwise (fun x y => cd x y < 0) := h.filter _

/-- What the document's Update has built behind some of the values, and whether the new one is in. -/
def st (c : List (Int × Int)) (x : Sb) (l : List Sb) : Nat → List Sb × Bool
  | 0 => ([], false)
  | i + 1 =>
    (if (sb l i).c ≤ cS c (sb l i).n then (if (!(st c x l i).2 && decide (cd x (sb l i) < 0)) = true then (st c x l i).1 ++ [x] else (st c x l i).1)
      else (if (!(st c x l i).2 && decide (cd x (sb l i) < 0)) = true then (st c x l i).1 ++ [x] else (st c x l i).1) ++ [sb l i],
      (st c x l i).2 || (!(st c x l i).2 && decide (cd x (sb l i) < 0)))
theorem st_len (c : List (Int × Int)) (x : Sb) (l : List Sb) : ∀ i, (st c x l i).1.length + (if (st c x l i).2 = true then 0 else 1) ≤ i + 1
  | 0 => by simp [st]
  | i + 1 => by
    have ih := st_len c x l i
    unfold st
    cases hb : (st c x l i).2
    · rw [hb] at ih
      simp only [Bool.not_false, Bool.true_and, Bool.false_or]
      by_cases h1 : cd x (sb l i) < 0 <;> by_cases h2 : (sb l i).c ≤ cS c (sb l i).n <;> simp [h1, h2] at ih ⊢ <;> omega
    · rw [hb] at ih
      simp only [Bool.not_true, Bool.false_and, Bool.true_or]
      by_cases h2 : (sb l i).c ≤ cS c (sb l i).n <;> simp [h2] at ih ⊢ <;> omega
theorem take_snocS (l : List Sb) (k : Nat) (h : k < l.length) : l.take (k + 1) = l.take k ++ [sb l k] := by
  rw [List.take_succ_eq_append_getElem h, sb_get l k h]
theorem st_form (c : List (Int × Int)) (x : Sb) (l : List Sb) : ∀ i, i ≤ l.length →
    ((st c x l i).2 = false → (st c x l i).1 = un c (l.take i) ∧ ∀ t, t < i → ¬ cd x (sb l t) < 0) ∧
    ((st c x l i).2 = true → ∃ j, j < i ∧ (∀ t, t < j → ¬ cd x (sb l t) < 0) ∧ cd x (sb l j) < 0 ∧ (st c x l i).1 = un c (l.take j) ++ x :: un c ((l.take i).drop j))
  | 0, _ => by simp [st, un]
  | i + 1, hi => by
    have ih := st_form c x l i (by omega)
    have hs := un_snoc c l i (by omega)
    have ht := take_snocS l i (by omega)
    cases hb : (st c x l i).2
    · obtain ⟨h1, h2⟩ := ih.1 hb
      by_cases h3 : cd x (sb l i) < 0
      · refine ⟨fun h => ?_, fun _ => ⟨i, by omega, h2, h3, ?_⟩⟩
        · simp [st, hb, h3] at h
        · have hd : (l.take (i + 1)).drop i = [sb l i] := by
            rw [ht, List.drop_append_of_le_length (by simp; omega), List.drop_eq_nil_of_le (by simp; omega)]; rfl
          rw [hd]
          unfold st
          simp only [hb, Bool.not_false, Bool.true_and, h3, decide_true, if_true]
          rw [h1]
          by_cases h4 : (sb l i).c ≤ cS c (sb l i).n
          · rw [if_pos h4]; simp [un, h4]
          · rw [if_neg h4]; simp [un, h4]
      · refine ⟨fun _ => ⟨?_, fun t ht2 => ?_⟩, fun h => ?_⟩
        · unfold st
          simp only [hb, Bool.not_false, Bool.true_and, h3, decide_false, Bool.false_eq_true, if_false]
          rw [hs, h1]
        · by_cases e : t = i
          · rw [e]; exact h3
          · exact h2 t (by omega)
        · simp [st, hb, h3] at h
    · obtain ⟨j, hj, h2, h3, h4⟩ := ih.2 hb
      refine ⟨fun h => ?_, fun _ => ⟨j, by omega, h2, h3, ?_⟩⟩
      · simp [st, hb] at h
      · have hd : (l.take (i + 1)).drop j = (l.take i).drop j ++ [sb l i] := by
          rw [ht, List.drop_append_of_le_length (by simp; omega)]
        rw [hd, un_append]
        unfold st
        simp only [hb, Bool.not_true, Bool.false_and, Bool.false_eq_true, if_false]
        rw [h4]
        by_cases h5 : (sb l i).c ≤ cS c (sb l i).n
        · rw [if_pos h5]; simp [un, h5]
        · rw [if_neg h5]; simp [un, h5]
/-- What it ends with. -/
def stEnd (c : List (Int × Int)) (x : Sb) (l : List Sb) : List Sb := if (st c x l l.length).2 = true then (st c x l l.length).1 else (st c x l l.length).1 ++ [x]
theorem mem_sb {l : List Sb} {y : Sb} (h : y ∈ l) : ∃ t, t < l.length ∧ sb l t = y := by
  obtain ⟨t, ht, rfl⟩ := List.getElem_of_mem h
  exact ⟨t, ht, sb_get l t ht⟩
theorem stEnd_put {sc c : List (Int × Int)} {l : List Sb} {x : Sb} (hs : SetOK sc l) (hx : ¬ x.c ≤ cS sc x.n) : ∃ p, Place (un c l) x p ∧ stEnd c x l = put (un c l) p x := by
  have hf := st_form c x l l.length (Nat.le_refl _)
  have key : ∀ j, j ≤ l.length → (∀ t, t < j → ¬ cd x (sb l t) < 0) → (j < l.length → cd x (sb l j) < 0) → stEnd c x l = un c (l.take j) ++ x :: un c (l.drop j) → ∃ p, Place (un c l) x p ∧ stEnd c x l = put (un c l) p x := by
    intro j hj h1 h2 h3
    have hU : un c l = un c (l.take j) ++ un c (l.drop j) := by rw [← un_append, List.take_append_drop]
    have hput : put (un c l) (un c (l.take j)).length x = un c (l.take j) ++ x :: un c (l.drop j) := by
      unfold put
      rw [hU, List.take_left, List.drop_left]
    refine ⟨(un c (l.take j)).length, ⟨by rw [hU]; simp, fun h0 => ?_, fun h0 => ?_⟩, by rw [h3, hput]⟩
    · have hm : sb (un c l) ((un c (l.take j)).length - 1) ∈ un c (l.take j) := by
        rw [sb_get _ _ (by rw [hU]; simp; omega)]
        simp only [hU]
        rw [List.getElem_append_left (by omega)]
        exact List.getElem_mem _
      obtain ⟨t, ht, he⟩ := mem_sb (List.mem_filter.1 hm).1
      have htj : t < j := by rw [List.length_take] at ht; omega
      have he2 : sb (l.take j) t = sb l t := by simp [sb, List.getD, htj]
      rw [he2] at he
      rw [← he]
      refine cd_tri (h1 t htj) (fun hh => ?_)
      have := (hs.2.2 t (by omega)).2.1
      rw [← hh.1, ← hh.2] at this
      exact hx this
    · have hm : sb (un c l) (un c (l.take j)).length ∈ un c (l.drop j) := by
        rw [sb_get _ _ h0]
        simp only [hU]
        rw [List.getElem_append_right (Nat.le_refl _)]
        exact List.getElem_mem _
      obtain ⟨t, ht, he⟩ := mem_sb (List.mem_filter.1 hm).1
      rw [List.length_drop] at ht
      have he2 : sb (l.drop j) t = sb l (j + t) := by simp [sb, List.getD]
      rw [he2] at he
      rw [← he]
      have h4 : cd x (sb l (j + t)) < 0 := by
        by_cases e : t = 0
        · subst e; exact h2 (by omega)
        · obtain ⟨d, hd⟩ : ∃ d, j + t = j + d + 1 := ⟨t - 1, by omega⟩
          rw [hd]
          exact cd_trans (h2 (by omega)) (UpS.lt hs.2.2 j d (by omega))
      rcases Int.lt_or_le (cd (sb l (j + t)) x) 0 with h5 | h5
      · exact absurd (cd_trans h4 h5) (cd_irr x)
      · exact h5
  cases hb : (st c x l l.length).2
  · obtain ⟨h1, h2⟩ := hf.1 hb
    refine key l.length (Nat.le_refl _) h2 (fun h => absurd h (Nat.lt_irrefl _)) ?_
    unfold stEnd
    rw [hb, h1]
    simp [un]
  · obtain ⟨j, hj, h1, h2, h3⟩ := hf.2 hb
    refine key j (by omega) h1 (fun _ => h2) ?_
    unfold stEnd
    rw [hb, if_pos rfl, h3, List.take_length]
theorem stEnd_len {sc c : List (Int × Int)} {l : List Sb} {x : Sb} (hs : SetOK sc l) (hx : ¬ x.c ≤ cS sc x.n) : (stEnd c x l).length = (un c l).length + 1 := by
  obtain ⟨p, hp, he⟩ := stEnd_put (c := c) hs hx
  rw [he, put_len _ _ _ hp.1]
/-- The counts behind an update. -/
def upF (sc c : List (Int × Int)) (n : Nat) (k : Int) : Nat → Int := fun m => if m = n then k else bth (cN c) (cN sc) 16 m
theorem upF_jn {sc c : List (Int × Int)} {n : Nat} {k : Int} (hs : US sc) (hc : US c) (hd : Dot (n : Int) k) (h1 : ¬ k ≤ cS sc n) (h2 : ¬ k ≤ cS c n) : entsTo (upF sc c n k) 16 = jn [sc, c, [((n : Int), k)]] := by
  have e : ∀ m, m < 16 → upF sc c n k m = apAll [sc, c, [((n : Int), k)]] [sc, c, [((n : Int), k)]].length m := by
    intro m hm
    rw [apAll_eq]
    unfold upF bth cN
    have a1 := cS_nonneg sc m
    have a2 := cS_nonneg c m
    have hk := hd.2.2.1
    simp only [List.length_cons, List.length_nil, mxS, List.getD_cons_succ, List.getD_cons_zero, cS]
    by_cases hmn : m = n
    · subst hmn
      simp only [if_true]
      omega
    · rw [if_neg hmn, if_pos hm, if_neg (by omega)]
      omega
  have key : ∀ (F G : Nat → Int) k, (∀ n, n < k → F n = G n) → entsTo F k = entsTo G k := by
    intro F G k
    induction k with
    | zero => intro _; rfl
    | succ k ih =>
      intro h
      unfold entsTo
      rw [ih (fun n hn => h n (by omega)), h k (by omega)]
  exact key _ _ 16 e
end Go.Proofs.Ytkiipmdplpcfeaa
