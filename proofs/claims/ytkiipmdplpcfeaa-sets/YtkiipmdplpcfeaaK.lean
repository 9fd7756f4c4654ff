/- Plain facts on clocks: counts by nodes, what join makes of them, that a clock is what its counts are. -/
import Derived.Test.YtkiipmdplpcfeaaJ
namespace Go.Proofs.Ytkiipmdplpcfeaa
open Go.RowKit M
set_option linter.unusedVariables false

/-- The count that a list has of a node: the greatest; 0 where there is none. -/
def cS : List (Int × Int) → Int → Int
  | [], _ => 0
  | e :: r, n => max (if e.1 = n then e.2 else 0) (cS r n)
theorem cS_nonneg : ∀ l n, 0 ≤ cS l n
  | [], _ => Int.le_refl _
  | e :: r, n => by have := cS_nonneg r n; unfold cS; omega
theorem cS_append : ∀ (l : List (Int × Int)) (e : Int × Int) (n : Int), cS (l ++ [e]) n = max (cS l n) (if e.1 = n then e.2 else 0)
  | [], e, n => by simp only [List.nil_append, cS]; omega
  | x :: r, e, n => by simp only [List.cons_append, cS, cS_append r e n]; omega

theorem take_snoc' (l : List (Int × Int)) (k : Nat) (h : k < l.length) : l.take (k + 1) = l.take k ++ [ent l k] := by
  rw [List.take_succ_eq_append_getElem h]
  simp [ent, List.getD, List.getElem?_eq_getElem h]
theorem ap_eq (F : Nat → Int) (l : List (Int × Int)) (n : Nat) (hF : 0 ≤ F n) : ∀ k, k ≤ l.length → ap F l k n = max (F n) (cS (l.take k) n)
  | 0, _ => by simp only [ap, List.take_zero, cS]; omega
  | k + 1, h => by
    have ih := ap_eq F l n hF k (by omega)
    rw [take_snoc' l k h, cS_append]
    simp only [ap]
    split <;> (try split) <;> omega
theorem ap_all (F : Nat → Int) (l : List (Int × Int)) (n : Nat) (hF : 0 ≤ F n) : ap F l l.length n = max (F n) (cS l n) := by
  rw [ap_eq F l n hF _ (Nat.le_refl _), List.take_length]

/-- Rising nodes, all dots. -/
def US (l : List (Int × Int)) : Prop := l.Pairwise (fun a b => a.1 < b.1) ∧ ∀ e ∈ l, Dot e.1 e.2
theorem ent_get (l : List (Int × Int)) (i : Nat) (h : i < l.length) : ent l i = l[i] := by simp [ent, List.getD, List.getElem?_eq_getElem h]
theorem up_lt {l : List (Int × Int)} (h : Up l l.length) (i : Nat) : ∀ d, i + d + 1 < l.length → (ent l i).1 < (ent l (i + d + 1)).1
  | 0, hd => by have := (h (i + 1) hd).2 (by omega); simpa using this
  | d + 1, hd => by
    have a := up_lt h i d (by omega)
    have b := (h (i + (d + 1) + 1) hd).2 (by omega)
    rw [show i + (d + 1) + 1 - 1 = i + d + 1 by omega] at b
    omega
theorem US.of_up {l : List (Int × Int)} (h : Up l l.length) : US l := by
  refine ⟨List.pairwise_iff_getElem.2 fun i j hi hj hij => ?_, fun e he => ?_⟩
  · obtain ⟨d, rfl⟩ : ∃ d, j = i + d + 1 := ⟨j - i - 1, by omega⟩
    have := up_lt h i d hj
    rw [ent_get l i hi, ent_get l _ hj] at this
    exact this
  · obtain ⟨i, hi, rfl⟩ := List.getElem_of_mem he
    have := (h i hi).1
    rw [ent_get l i hi] at this
    exact this
theorem US.up {l : List (Int × Int)} (h : US l) : Up l l.length := by
  intro j hj
  rw [ent_get l j hj]
  refine ⟨h.2 _ (List.getElem_mem hj), fun h0 => ?_⟩
  rw [ent_get l (j - 1) (by omega)]
  exact List.pairwise_iff_getElem.1 h.1 (j - 1) j (by omega) hj (by omega)
theorem clk_iff (l : List (Int × Int)) : Clk l ↔ l.length ≤ 8 ∧ US l := ⟨fun h => ⟨h.1, US.of_up h.2⟩, fun h => ⟨h.1, h.2.up⟩⟩

theorem cS_none : ∀ {l : List (Int × Int)} {n : Int}, (∀ e ∈ l, e.1 ≠ n) → cS l n = 0
  | [], _, _ => rfl
  | e :: r, n, h => by
    have a := cS_none (l := r) (n := n) (fun x hx => h x (List.mem_cons_of_mem _ hx))
    have b := h e List.mem_cons_self
    unfold cS
    rw [a, if_neg b]; rfl
theorem cS_mem : ∀ {l : List (Int × Int)} {e : Int × Int}, US l → e ∈ l → cS l e.1 = e.2
  | [], _, _, h => absurd h (by simp)
  | x :: r, e, hu, h => by
    obtain ⟨hp, hd⟩ := hu
    rw [List.pairwise_cons] at hp
    have hdx := hd x List.mem_cons_self
    rcases List.mem_cons.1 h with rfl | h
    · have : cS r e.1 = 0 := cS_none (fun y hy => by have := hp.1 y hy; omega)
      unfold cS
      rw [this, if_pos rfl]
      have := hdx.2.2.1; omega
    · have ih := cS_mem (l := r) ⟨hp.2, fun y hy => hd y (List.mem_cons_of_mem _ hy)⟩ h
      have := hp.1 e h
      unfold cS
      rw [ih, if_neg (by omega)]
      have := (hd e (List.mem_cons_of_mem _ h)).2.2.1; omega
theorem cS_pos : ∀ {l : List (Int × Int)} {n : Int}, US l → 0 < cS l n → (n, cS l n) ∈ l := by
  intro l n hu hp
  by_cases h : ∀ e ∈ l, e.1 ≠ n
  · rw [cS_none h] at hp; exact absurd hp (by omega)
  · simp only [ne_eq, Classical.not_forall, Classical.not_not] at h
    obtain ⟨e, he, rfl⟩ := h
    rw [cS_mem hu he]; exact he
theorem cS_le {l : List (Int × Int)} {n : Int} (hu : US l) : cS l n ≤ 4611686018427387904 := by
  by_cases h : 0 < cS l n
  · exact (hu.2 _ (cS_pos hu h)).2.2.2
  · omega

theorem mem_entsTo (F : Nat → Int) (e : Int × Int) : ∀ k, e ∈ entsTo F k ↔ ∃ n, n < k ∧ 0 < F n ∧ e = ((n : Int), F n)
  | 0 => by simp [entsTo]
  | k + 1 => by
    have ih := mem_entsTo F e k
    unfold entsTo
    split
    · rename_i hF
      rw [List.mem_append, ih]
      constructor
      · rintro (⟨n, h1, h2⟩ | h)
        · exact ⟨n, by omega, h2⟩
        · simp at h; exact ⟨k, by omega, hF, h⟩
      · rintro ⟨n, h1, h2, h3⟩
        by_cases e1 : n = k
        · subst e1; exact .inr (by simp [h3])
        · exact .inl ⟨n, by omega, h2, h3⟩
    · rename_i hF
      rw [ih]
      constructor
      · rintro ⟨n, h1, h2⟩; exact ⟨n, by omega, h2⟩
      · rintro ⟨n, h1, h2, h3⟩
        exact ⟨n, by by_cases e1 : n = k; (subst e1; exact absurd h2 hF); omega, h2, h3⟩
theorem pw_entsTo (F : Nat → Int) : ∀ k, (entsTo F k).Pairwise (fun a b => a.1 < b.1)
  | 0 => by simp [entsTo]
  | k + 1 => by
    have ih := pw_entsTo F k
    unfold entsTo
    split
    · rw [List.pairwise_append]
      refine ⟨ih, by simp, fun a ha b hb => ?_⟩
      simp at hb
      obtain ⟨n, h1, h2, rfl⟩ := (mem_entsTo F a k).1 ha
      subst hb
      show (n : Int) < (k : Int)
      omega
    · exact ih
theorem US_ents {F : Nat → Int} (h : ∀ n, n < 16 → F n ≤ 4611686018427387904) : US (entsTo F 16) := by
  refine ⟨pw_entsTo F 16, fun e he => ?_⟩
  obtain ⟨n, h1, h2, rfl⟩ := (mem_entsTo F e 16).1 he
  exact ⟨by show (0 : Int) ≤ (n : Int); omega, by show (n : Int) ≤ 15; omega, by show 1 ≤ F n; omega, h n h1⟩
theorem cS_ents {F : Nat → Int} (h : ∀ n, n < 16 → 0 ≤ F n ∧ F n ≤ 4611686018427387904) (n : Nat) (hn : n < 16) : cS (entsTo F 16) n = F n := by
  have hu := US_ents fun n hn => (h n hn).2
  by_cases h0 : 0 < F n
  · exact cS_mem (e := ((n : Int), F n)) hu ((mem_entsTo F _ 16).2 ⟨n, hn, h0, rfl⟩)
  · rw [cS_none]
    · have := (h n hn).1; omega
    · intro e he
      obtain ⟨m, h1, h2, rfl⟩ := (mem_entsTo F e 16).1 he
      intro e2
      have : m = n := by have : (m : Int) = (n : Int) := e2; omega
      subst this; exact h0 h2
theorem sorted_ext : ∀ {l m : List (Int × Int)}, l.Pairwise (fun a b => a.1 < b.1) → m.Pairwise (fun a b => a.1 < b.1) → (∀ e, e ∈ l ↔ e ∈ m) → l = m
  | [], [], _, _, _ => rfl
  | [], b :: s, _, _, h => absurd ((h b).2 List.mem_cons_self) (by simp)
  | a :: r, [], _, _, h => absurd ((h a).1 List.mem_cons_self) (by simp)
  | a :: r, b :: s, hl, hm, h => by
    rw [List.pairwise_cons] at hl hm
    have hab : a = b := by
      rcases List.mem_cons.1 ((h a).1 List.mem_cons_self) with e | ha
      · exact e
      · rcases List.mem_cons.1 ((h b).2 List.mem_cons_self) with e | hb
        · exact e.symm
        · have := hl.1 b hb; have := hm.1 a ha; omega
    subst hab
    rw [sorted_ext hl.2 hm.2 fun e => ?_]
    constructor
    · intro he
      rcases List.mem_cons.1 ((h e).1 (List.mem_cons_of_mem _ he)) with rfl | h1
      · exact absurd (hl.1 _ he) (by omega)
      · exact h1
    · intro he
      rcases List.mem_cons.1 ((h e).2 (List.mem_cons_of_mem _ he)) with rfl | h1
      · exact absurd (hm.1 _ he) (by omega)
      · exact h1
/-- Two clocks with the same counts are the same. -/
theorem US_ext {l m : List (Int × Int)} (hl : US l) (hm : US m) (h : ∀ n : Nat, n < 16 → cS l n = cS m n) : l = m := by
  have key : ∀ {l m : List (Int × Int)}, US l → US m → (∀ n : Nat, n < 16 → cS l n = cS m n) → ∀ e, e ∈ l → e ∈ m := by
    intro l m hl hm h e he
    have hd := hl.2 e he
    obtain ⟨n, hn⟩ : ∃ n : Nat, e.1 = n := ⟨e.1.toNat, by have := hd.1; omega⟩
    have h1 := cS_mem hl he
    have h2 := h n (by have := hd.2.1; omega)
    rw [hn] at h1
    have h3 : 0 < cS m n := by have := hd.2.2.1; omega
    have h4 := cS_pos hm h3
    have : e = ((n : Int), cS m n) := Prod.ext hn (by rw [← h2]; exact h1.symm)
    rw [this]; exact h4
  exact sorted_ext hl.1 hm.1 fun e => ⟨key hl hm h e, key hm hl (fun n hn => (h n hn).symm) e⟩

/-- What join makes of some lists. -/
def jn (ls : List (List (Int × Int))) : List (Int × Int) := entsTo (apAll ls ls.length) 16
def mxS (ls : List (List (Int × Int))) (n : Int) : Nat → Int
  | 0 => 0
  | j + 1 => max (mxS ls n j) (cS (ls.getD j []) n)
theorem mxS_nonneg (ls : List (List (Int × Int))) (n : Int) : ∀ j, 0 ≤ mxS ls n j
  | 0 => Int.le_refl _
  | j + 1 => by have := mxS_nonneg ls n j; unfold mxS; omega
theorem apAll_eq (ls : List (List (Int × Int))) (n : Nat) : ∀ j, apAll ls j n = mxS ls n j
  | 0 => rfl
  | j + 1 => by
    have ih := apAll_eq ls n j
    unfold apAll mxS
    rw [ap_all _ _ _ (by rw [ih]; exact mxS_nonneg _ _ _), ih]
theorem mxS_le {ls : List (List (Int × Int))} {n : Int} : ∀ j, (∀ i, i < j → US (ls.getD i [])) → mxS ls n j ≤ 4611686018427387904
  | 0, _ => by unfold mxS; omega
  | j + 1, h => by
    have a := mxS_le (ls := ls) (n := n) j (fun i hi => h i (by omega))
    have b := cS_le (n := n) (h j (by omega))
    unfold mxS; omega
theorem US_jn {ls : List (List (Int × Int))} (h : ∀ i, i < ls.length → US (ls.getD i [])) : US (jn ls) :=
  US_ents fun n _ => by rw [apAll_eq]; exact mxS_le _ h
theorem cS_jn {ls : List (List (Int × Int))} (h : ∀ i, i < ls.length → US (ls.getD i [])) (n : Nat) (hn : n < 16) : cS (jn ls) n = mxS ls n ls.length := by
  unfold jn
  rw [cS_ents (fun m hm => by rw [apAll_eq]; exact ⟨mxS_nonneg _ _ _, mxS_le _ h⟩) n hn, apAll_eq]
theorem us2 {l m : List (Int × Int)} (hl : US l) (hm : US m) : ∀ i, i < [l, m].length → US ([l, m].getD i [])
  | 0, _ => hl
  | 1, _ => hm
  | i + 2, h => absurd h (by simp)
theorem cS_jn2 {l m : List (Int × Int)} (hl : US l) (hm : US m) (n : Nat) (hn : n < 16) : cS (jn [l, m]) n = max (cS l n) (cS m n) := by
  rw [cS_jn (us2 hl hm) n hn]
  have := cS_nonneg l n
  simp only [List.length_cons, List.length_nil, mxS, List.getD_cons_succ, List.getD_cons_zero]
  omega
end Go.Proofs.Ytkiipmdplpcfeaa
