/- Plain facts on clocks: counts by nodes, what join makes of them, that a clock is what its counts are. -/
import Derived.Test.YtilkdeghknjjhaaGreatDoorPart05
import Derived.WalkKit
import Derived.WalkSpells
import Derived.WalkLawsBesides
import Derived.Deep.QuietTactic
import Derived.BigQuiet
import Derived.Laws.CopyOwn
import Derived.BigRegion
import Derived.Deep.RegionHeld3
import Derived.Lib.QuietBelow
namespace Go.Proofs.YtilkdeghknjjhaaGreatDoor
open Go.RowKit M
set_option linter.unusedVariables false

/-- The count that a list has of a node: the greatest; 0 where there is none. -/
def cS : List (Int × Int) → Int → Int
  | [], _ => 0
  | e :: r, n => max (if e.1 = n then e.2 else 0) (cS r n)
theorem cS_nonneg : ∀ l n, 0 ≤ cS l n
  | [], _ => Int.le_refl _
  | e :: r, n => by have := cS_nonneg r n; unfold cS; omega
theorem cS_append : ∀ (l : List (Int × Int)) (e : Int × Int) (n : Int), cS (l ++ [e]) n = max (cS l n) (if e.1 = n then e.2 else 0)
  | [], e, n => by simp only [List.nil_append, cS]; omega
  | x :: r, e, n => by simp only [List.cons_append, cS, cS_append r e n]; omega

theorem take_snoc' (l : List (Int × Int)) (k : Nat) (h : k < l.length) : l.take (k + 1) = l.take k ++ [ent l k] := by
  rw [List.take_succ_eq_append_getElem h]
  simp [ent, List.getD, List.getElem?_eq_getElem h]
theorem ap_eq (F : Nat → Int) (l : List (Int × Int)) (n : Nat) (hF : 0 ≤ F n) : ∀ k, k ≤ l.length → ap F l k n = max (F n) (cS (l.take k) n)
  | 0, _ => by simp only [ap, List.take_zero, cS]; omega
  | k + 1, h => by
    have ih := ap_eq F l n hF k (by omega)
    rw [take_snoc' l k h, cS_append]
    simp only [ap]
    split <;> (try split) <;> omega
theorem ap_all (F : Nat → Int) (l : List (Int × Int)) (n : Nat) (hF : 0 ≤ F n) : ap F l l.length n = max (F n) (cS l n) := by
  rw [ap_eq F l n hF _ (Nat.le_refl _), List.take_length]

/-- Rising nodes, all dots. -/
def US (l : List (Int × Int)) : Prop := l.Pairwise (fun a b => a.1 < b.1) ∧ ∀ e ∈ l, Dot e.1 e.2
theorem ent_get (l : List (Int × Int)) (i : Nat) (h : i < l.length) : ent l i = l[i] := by simp [ent, List.getD, List.getElem?_eq_getElem h]
theorem up_lt {l : List (Int × Int)} (h : Up l l.length) (i : Nat) : ∀ d, i + d + 1 < l.length → (ent l i).1 < (ent l (i + d + 1)).1
  | 0, hd => by have := (h (i + 1) hd).2 (by omega); simpa using this
  | d + 1, hd => by
    have a := up_lt h i d (by omega)
    have b := (h (i + (d + 1) + 1) hd).2 (by omega)
    rw [show i + (d + 1) + 1 - 1 = i + d + 1 by omega] at b
    omega
theorem US.of_up {l : List (Int × Int)} (h : Up l l.length) : US l := by
  refine ⟨List.pairwise_iff_getElem.2 fun i j hi hj hij => ?_, fun e he => ?_⟩
  · obtain ⟨d, rfl⟩ : ∃ d, j = i + d + 1 := ⟨j - i - 1, by omega⟩
    have := up_lt h i d hj
    rw [ent_get l i hi, ent_get l _ hj] at this
    exact this
  · obtain ⟨i, hi, rfl⟩ := List.getElem_of_mem he
    have := (h i hi).1
    rw [ent_get l i hi] at this
    exact this
theorem US.up {l : List (Int × Int)} (h : US l) : Up l l.length := by
  intro j hj
  rw [ent_get l j hj]
  refine ⟨h.2 _ (List.getElem_mem hj), fun h0 => ?_⟩
  rw [ent_get l (j - 1) (by omega)]
  exact List.pairwise_iff_getElem.1 h.1 (j - 1) j (by omega) hj (by omega)
theorem clk_iff (l : List (Int × Int)) : Clk l ↔ l.length ≤ 8 ∧ US l := ⟨fun h => ⟨h.1, US.of_up h.2⟩, fun h => ⟨h.1, h.2.up⟩⟩

theorem cS_none : ∀ {l : List (Int × Int)} {n : Int}, (∀ e ∈ l, e.1 ≠ n) → cS l n = 0
  | [], _, _ => rfl
  | e :: r, n, h => by
    have a := cS_none (l := r) (n := n) (fun x hx => h x (List.mem_cons_of_mem _ hx))
    have b := h e List.mem_cons_self
    unfold cS
    rw [a, if_neg b]; rfl
theorem cS_mem : ∀ {l : List (Int × Int)} {e : Int × Int}, US l → e ∈ l → cS l e.1 = e.2
  | [], _, _, h => absurd h (by simp)
  | x :: r, e, hu, h => by
    obtain ⟨hp, hd⟩ := hu
    rw [List.pairwise_cons] at hp
    have hdx := hd x List.mem_cons_self
    rcases List.mem_cons.1 h with rfl | h
    · have : cS r e.1 = 0 := cS_none (fun y hy => by have := hp.1 y hy; omega)
      unfold cS
      rw [this, if_pos rfl]
      have := hdx.2.2.1; omega
    · have ih := cS_mem (l := r) ⟨hp.2, fun y hy => hd y (List.mem_cons_of_mem _ hy)⟩ h
      have := hp.1 e h
      unfold cS
      rw [ih, if_neg (by omega)]
      have := (hd e (List.mem_cons_of_mem _ h)).2.2.1; omega
theorem cS_pos : ∀ {l : List (Int × Int)} {n : Int}, US l → 0 < cS l n → (n, cS l n) ∈ l := by
  intro l n hu hp
  by_cases h : ∀ e ∈ l, e.1 ≠ n
  · rw [cS_none h] at hp; exact absurd hp (by omega)
  · simp only [ne_eq, Classical.not_forall, Classical.not_not] at h
    obtain ⟨e, he, rfl⟩ := h
    rw [cS_mem hu he]; exact he
theorem cS_le {l : List (Int × Int)} {n : Int} (hu : US l) : cS l n ≤ 4611686018427387904 := by
  by_cases h : 0 < cS l n
  · exact (hu.2 _ (cS_pos hu h)).2.2.2
  · omega

theorem mem_entsTo (F : Nat → Int) (e : Int × Int) : ∀ k, e ∈ entsTo F k ↔ ∃ n, n < k ∧ 0 < F n ∧ e = ((n : Int), F n)
  | 0 => by simp [entsTo]
  | k + 1 => by
    have ih := mem_entsTo F e k
    unfold entsTo
    split
    · rename_i hF
      rw [List.mem_append, ih]
      constructor
      · rintro (⟨n, h1, h2⟩ | h)
        · exact ⟨n, by omega, h2⟩
        · simp at h; exact ⟨k, by omega, hF, h⟩
      · rintro ⟨n, h1, h2, h3⟩
        by_cases e1 : n = k
        · subst e1; exact .inr (by simp [h3])
        · exact .inl ⟨n, by omega, h2, h3⟩
    · rename_i hF
      rw [ih]
      constructor
      · rintro ⟨n, h1, h2⟩; exact ⟨n, by omega, h2⟩
      · rintro ⟨n, h1, h2, h3⟩
        exact ⟨n, by by_cases e1 : n = k; (subst e1; exact absurd h2 hF); omega, h2, h3⟩
theorem pw_entsTo (F : Nat → Int) : ∀ k, (entsTo F k).Pairwise (fun a b => a.1 < b.1)
  | 0 => by simp [entsTo]
  | k + 1 => by
    have ih := pw_entsTo F k
    unfold entsTo
    split
    · rw [List.pairwise_append]
      refine ⟨ih, by simp, fun a ha b hb => ?_⟩
      simp at hb
      obtain ⟨n, h1, h2, rfl⟩ := (mem_entsTo F a k).1 ha
      subst hb
      show (n : Int) < (k : Int)
      omega
    · exact ih
theorem US_ents {F : Nat → Int} (h : ∀ n, n < 16 → F n ≤ 4611686018427387904) : US (entsTo F 16) := by
  refine ⟨pw_entsTo F 16, fun e he => ?_⟩
  obtain ⟨n, h1, h2, rfl⟩ := (mem_entsTo F e 16).1 he
  exact ⟨by show (0 : Int) ≤ (n : Int); omega, by show (n : Int) ≤ 15; omega, by show 1 ≤ F n; omega, h n h1⟩
theorem cS_ents {F : Nat → Int} (h : ∀ n, n < 16 → 0 ≤ F n ∧ F n ≤ 4611686018427387904) (n : Nat) (hn : n < 16) : cS (entsTo F 16) n = F n := by
  have hu := US_ents fun n hn => (h n hn).2
  by_cases h0 : 0 < F n
  · exact cS_mem (e := ((n : Int), F n)) hu ((mem_entsTo F _ 16).2 ⟨n, hn, h0, rfl⟩)
  · rw [cS_none]
    · have := (h n hn).1; omega
    · intro e he
      obtain ⟨m, h1, h2, rfl⟩ := (mem_entsTo F e 16).1 he
      intro e2
      have : m = n := by have : (m : Int) = (n : Int) := e2; omega
      subst this; exact h0 h2
theorem sorted_ext : ∀ {l m : List (Int × Int)}, l.Pairwise (fun a b => a.1 < b.1) → m.Pairwise (fun a b => a.1 < b.1) → (∀ e, e ∈ l ↔ e ∈ m) → l = m
  | [], [], _, _, _ => rfl
  | [], b :: s, _, _, h => absurd ((h b).2 List.mem_cons_self) (by simp)
  | a :: r, [], _, _, h => absurd ((h a).1 List.mem_cons_self) (by simp)
  | a :: r, b :: s, hl, hm, h => by
    rw [List.pairwise_cons] at hl hm
    have hab : a = b := by
      rcases List.mem_cons.1 ((h a).1 List.mem_cons_self) with e | ha
      · exact e
      · rcases List.mem_cons.1 ((h b).2 List.mem_cons_self) with e | hb
        · exact e.symm
        · have := hl.1 b hb; have := hm.1 a ha; omega
    subst hab
    rw [sorted_ext hl.2 hm.2 fun e => ?_]
    constructor
    · intro he
      rcases List.mem_cons.1 ((h e).1 (List.mem_cons_of_mem _ he)) with rfl | h1
      · exact absurd (hl.1 _ he) (by omega)
      · exact h1
    · intro he
      rcases List.mem_cons.1 ((h e).2 (List.mem_cons_of_mem _ he)) with rfl | h1
      · exact absurd (hm.1 _ he) (by omega)
      · exact h1
/-- Two clocks with the same counts are the same. -/
theorem US_ext {l m : List (Int × Int)} (hl : US l) (hm : US m) (h : ∀ n : Nat, n < 16 → cS l n = cS m n) : l = m := by
  have key : ∀ {l m : List (Int × Int)}, US l → US m → (∀ n : Nat, n < 16 → cS l n = cS m n) → ∀ e, e ∈ l → e ∈ m := by
    intro l m hl hm h e he
    have hd := hl.2 e he
    obtain ⟨n, hn⟩ : ∃ n : Nat, e.1 = n := ⟨e.1.toNat, by have := hd.1; omega⟩
    have h1 := cS_mem hl he
    have h2 := h n (by have := hd.2.1; omega)
    rw [hn] at h1
    have h3 : 0 < cS m n := by have := hd.2.2.1; omega
    have h4 := cS_pos hm h3
    have : e = ((n : Int), cS m n) := Prod.ext hn (by rw [← h2]; exact h1.symm)
    rw [this]; exact h4
  exact sorted_ext hl.1 hm.1 fun e => ⟨key hl hm h e, key hm hl (fun n hn => (h n hn).symm) e⟩

/-- What join makes of some lists. -/
def jn (ls : List (List (Int × Int))) : List (Int × Int) := entsTo (apAll ls ls.length) 16
def mxS (ls : List (List (Int × Int))) (n : Int) : Nat → Int
  | 0 => 0
  | j + 1 => max (mxS ls n j) (cS (ls.getD j []) n)
theorem mxS_nonneg (ls : List (List (Int × Int))) (n : Int) : ∀ j, 0 ≤ mxS ls n j
  | 0 => Int.le_refl _
  | j + 1 => by have := mxS_nonneg ls n j; unfold mxS; omega
theorem apAll_eq (ls : List (List (Int × Int))) (n : Nat) : ∀ j, apAll ls j n = mxS ls n j
  | 0 => rfl
  | j + 1 => by
    have ih := apAll_eq ls n j
    unfold apAll mxS
    rw [ap_all _ _ _ (by rw [ih]; exact mxS_nonneg _ _ _), ih]
theorem mxS_le {ls : List (List (Int × Int))} {n : Int} : ∀ j, (∀ i, i < j → US (ls.getD i [])) → mxS ls n j ≤ 4611686018427387904
  | 0, _ => by unfold mxS; omega
  | j + 1, h => by
    have a := mxS_le (ls := ls) (n := n) j (fun i hi => h i (by omega))
    have b := cS_le (n := n) (h j (by omega))
    unfold mxS; omega
theorem US_jn {ls : List (List (Int × Int))} (h : ∀ i, i < ls.length → US (ls.getD i [])) : US (jn ls) :=
  US_ents fun n _ => by rw [apAll_eq]; exact mxS_le _ h
theorem cS_jn {ls : List (List (Int × Int))} (h : ∀ i, i < ls.length → US (ls.getD i [])) (n : Nat) (hn : n < 16) : cS (jn ls) n = mxS ls n ls.length := by
  unfold jn
  rw [cS_ents (fun m hm => by rw [apAll_eq]; exact ⟨mxS_nonneg _ _ _, mxS_le _ h⟩) n hn, apAll_eq]
theorem us2 {l m : List (Int × Int)} (hl : US l) (hm : US m) : ∀ i, i < [l, m].length → US ([l, m].getD i [])
  | 0, _ => hl
  | 1, _ => hm
  | i + 2, h => absurd h (by simp)
theorem cS_jn2 {l m : List (Int × Int)} (hl : US l) (hm : US m) (n : Nat) (hn : n < 16) : cS (jn [l, m]) n = max (cS l n) (cS m n) := by
  rw [cS_jn (us2 hl hm) n hn]
  have := cS_nonneg l n
  simp only [List.length_cons, List.length_nil, mxS, List.getD_cons_succ, List.getD_cons_zero]
  omega
end Go.Proofs.YtilkdeghknjjhaaGreatDoor
/- The contracts of seen, Covers and Join. -/
namespace Go.Proofs.YtilkdeghknjjhaaGreatDoor
open Go.RowKit M
set_option linter.unusedVariables false

set_option maxRecDepth 20000 in
set_option maxHeartbeats 400000 in
theorem seen_any (v : Value) (l : List (Int × Int)) (n c : Int) (w : World) (hrd : Rd w v l) (hu : US l) (h1 : 1 ≤ c) :
    Calls Tryz.prog 152 #[v, .int .i64 n, .int .i64 c] w fun e w' => e = .returned (.bool (decide (c ≤ cS l n))) ∧ Below w.heap.size w w' := by
  obtain ⟨a, cap, rfl, hlc, hc, hA⟩ := hrd
  have hl1 : (l.length : Int) ≤ 9223372036854775807 := by omega
  clear hlc hc
  go_enter Tryz.func152, Tryz.ntmps152
  go_wp2
  go_loopw [8, 11] (fun _ i wr => ∃ k : Nat, k ≤ l.length ∧ i = .int .i64 k ∧ Hid (∀ e ∈ l.take k, e.1 ≠ n) ∧ Below w.heap.size w wr)
    (fun _ i _ => l.length - (intOf i).toNat)
  case atStart => exact ⟨0, Nat.zero_le _, rfl, fun e h => by simp at h, Below.refl _ _⟩
  case round =>
    obtain ⟨k, hk, rfl, he, hb⟩ := hrel
    have hsz := hb.size
    by_cases hlt : k < l.length
    · obtain ⟨b, off, rfl, hr⟩ := hA (by omega)
      have hmem : ent l k ∈ l := by rw [ent_get l k hlt]; exact List.getElem_mem hlt
      have hcs := cS_mem hu hmem
      have hts := take_snoc' l k hlt
      have HM : Hid (cS l (ent l k).1 = (ent l k).2 ∧ l.take (k + 1) = l.take k ++ [ent l k]) := ⟨hcs, hts⟩
      have c1 : wr.cell? ⟨b, off + k * 2, none⟩ = some (.int .i64 (ent l k).1) := cell_later hb (hr k hlt).1
      have c2 : wr.cell? ⟨b, off + k * 2 + 1, none⟩ = some (.int .i64 (ent l k).2) := cell_later hb (hr k hlt).2
      have HU : Hid (US l) := hu
      clear hA hr hcs hts hmem hu
      by_cases hn : (ent l k).1 = n
      · have hn' : ((ent l k).1 == n) = true := by simp [hn]
        have HN : Hid ((ent l k).1 = n) := hn
        clear hn
        go_wp2
        go_ret
        refine ⟨?_, by repeat (first | exact hb | refine below_drewN ?_ _ | refine Below.drew ?_ | refine Below.setCell ?_ (by first | omega | (simp; omega)) _ | refine Below.alloc ?_ (by first | omega | (simp; omega)) _)⟩
        have hN := HN.out
        rw [← hN, HM.out.1]
        rfl
      · have hn' : ((ent l k).1 == n) = false := by simp [hn]
        have HN : Hid (¬ (ent l k).1 = n) := hn
        clear hn
        go_wp2
        go_roundw
        case rel => exact ⟨k + 1, by omega, by go_num, fun e hx => by
          rw [HM.out.2] at hx
          rcases List.mem_append.1 hx with h | h
          · exact he.out e h
          · simp at h; subst h; exact HN.out, by repeat (first | exact hb | refine below_drewN ?_ _ | refine Below.drew ?_ | refine Below.setCell ?_ (by first | omega | (simp; omega)) _ | refine Below.alloc ?_ (by first | omega | (simp; omega)) _)⟩
        case measure => simp [intOf]; omega
    · have hkk : k = l.length := by omega
      have h0 : cS l n = 0 := cS_none (fun e hx => he.out e (by rw [hkk, List.take_length]; exact hx))
      have HF : Hid (decide (c ≤ cS l n) = false) := decide_eq_false (by rw [h0]; omega)
      clear h0 hkk
      go_wp2
      go_ret
      exact ⟨by rw [HF.out]; rfl, hb⟩

set_option maxRecDepth 20000 in
set_option maxHeartbeats 400000 in
theorem Covers_any (v : Value) (l : List (Int × Int)) (n c : Int) (w : World) (hrd : Rd w v l) :
    Calls Tryz.prog 89 #[v, .int .i64 n, .int .i64 c] w fun e w' => ∃ r, e = .returned (.bool r) ∧ (r = true ↔ Clk l ∧ Dot n c ∧ c ≤ cS l n) ∧ Below w.heap.size w w' := by
  go_enter Tryz.func89, Tryz.ntmps89
  go_wp2_with fail
  refine (isClock_any v l _ hrd).mono ?_
  rintro e w1 ⟨r, rfl, hr, hb⟩
  have hrd1 := hrd.below hb
  have hsz := hb.size
  cases r
  · have HN : Hid (¬ Clk l) := fun h => Bool.noConfusion (hr.2 h)
    clear hr
    go_wp2
    go_ret
    exact ⟨false, rfl, by simp; intro h; exact absurd h HN.out, hb⟩
  · have hk : Clk l := hr.1 rfl
    have HK : Hid (Clk l) := hk
    clear hr hk
    go_wp2_with fail
    refine (isDot_any n c _).mono ?_
    rintro e w2 ⟨rfl, rfl⟩
    by_cases hd : dotB n c = true
    · have hdd := (dotB_iff _ _).1 hd
      have h1 : 1 ≤ c := hdd.2.2.1
      rw [hd]
      have HD : Hid (Dot n c) := hdd
      clear hd hdd
      go_wp2_with fail
      refine (seen_any v l n c _ hrd1 ((clk_iff l).1 HK.out).2 h1).mono ?_
      rintro e w3 ⟨rfl, hb3⟩
      go_wp2
      go_ret
      exact ⟨_, rfl, by simp [HK.out, HD.out], hb.trans (hb3.mono hsz)⟩
    · have hd' : dotB n c = false := by simpa using hd
      have HD : Hid (¬ Dot n c) := fun h => hd ((dotB_iff _ _).2 h)
      rw [hd']
      clear hd hd'
      go_wp2
      go_ret
      exact ⟨false, rfl, by simp; intro _ h; exact absurd h HD.out, hb⟩

/-- What Join of two clocks answers. -/
def JoinEnd (w : World) (l m : List (Int × Int)) (e : Ending) (w' : World) : Prop :=
  ((¬ Clk l ∨ ¬ Clk m) ∧ e = .returned (.tuple #[.slice none 0 0, .int .i64 1])) ∨
  (Clk l ∧ Clk m ∧ 8 < (jn [l, m]).length ∧ e = .returned (.tuple #[.slice none 0 0, .int .i64 5])) ∨
  (Clk l ∧ Clk m ∧ (jn [l, m]).length ≤ 8 ∧ ∃ v, e = .returned (.tuple #[v, .int .i64 0]) ∧ w'.ownsRow w.heap.size 183 2 v (jn [l, m]).length (cellsE (jn [l, m])))

theorem own_base {w : World} {B B' e size n : Nat} {v : Value} {xs : List Value} (h : w.ownsRow B' e size v n xs) (hB : B ≤ B') : w.ownsRow B e size v n xs :=
  ⟨h.1, h.2.imp id (fun ⟨g, cap, cur, a, b, c⟩ => ⟨g, cap, cur, a, Nat.le_trans hB b, c⟩)⟩

theorem Rd.shape {w : World} {v : Value} {l : List (Int × Int)} (h : Rd w v l) : ∃ a cap, v = .slice a l.length cap := by
  obtain ⟨a, cap, hv, _⟩ := h
  exact ⟨a, cap, hv⟩

end Go.Proofs.YtilkdeghknjjhaaGreatDoor
/- Laws of our own: an append that leaves the old slice as it was; copy of elements of any size into a row from its head. -/
namespace Go.Proofs.YtilkdeghknjjhaaGreatDoor
open Go.RowKit M
set_option linter.unusedVariables false
section
variable {P : Program}

/-- Behind an append to an owned slice the slice itself reads as it did. -/
theorem append_keeps (w : World) (base : Nat) (t ty e : TypeId) (i : TypeInfo) (z : Value) (size bytes : Nat) (ht : P.underlying t = some (.slice e)) (hi : P.info? e = some i) (hz : i.zero = some z)
    (hsize : i.size = size) (hby : i.bytes = bytes) (hzs : z.cells.size = size) (hsz : 0 < size) (v : Value) (n : Nat) (xs : List Value) (hown : w.ownsRow base e size v n xs)
    (a : Addr) (m c : Nat) (news : List Value) (hl : news.length = m * size) (hm1 : 0 < m) (hnews : ∀ j u, news[j]? = some u → w.cell? (a.add j) = some u) (h1 : ∀ u ∈ news, u.oneCell' = true)
    (h63 : n + m ≤ 1000000000) (hbytes : (n + m) * bytes ≤ 140737488355328) (hbase : base ≤ w.heap.size) :
    ∃ v' w', (Builtin.append_ #[t, t] ty #[v, .slice (some a) m c]).run P w = .ok v' w' ∧ w'.ownsRow base e size v' (n + m) (xs ++ news) ∧ w'.ownsRow base e size v n xs ∧ w.grownBy w' v.ownBlock ∧ (v'.ownBlock = v.ownBlock ∨ ∀ k, v'.ownBlock = some k → w.heap.size ≤ k) := by
  have h63' : n + m ≤ maxLen := by unfold maxLen; omega
  obtain ⟨v', w', hr, h2, h3, h4⟩ := run_append_own (P := P) w base t ty e i z size bytes ht hi hz hsize hby hzs hsz v n xs hown a m c news hl hnews h1 h63' hbytes hbase
  suffices hk : w'.ownsRow base e size v n xs ∧ (v'.ownBlock = v.ownBlock ∨ ∀ k, v'.ownBlock = some k → w.heap.size ≤ k) from ⟨v', w', hr, h2, hk.1, h3, hk.2⟩
  rcases hown.2 with ⟨rfl, rfl⟩ | ⟨g, cap, cur, rfl, hbg, hg, hnc, hcm, hcs, htake⟩
  · subst hsize
    subst hby
    refine ⟨⟨hown.1, .inl ⟨rfl, rfl⟩⟩, .inr fun k hk => ?_⟩
    have hr2 := run_append_nil (P := P) w t ty e i z ht hi hz a m c news hl hnews hm1 (by omega) (by have hb := hbytes; simp only [Nat.zero_add] at hb; omega)
    rw [hr] at hr2
    injection hr2 with hv _
    subst hv
    simp [Value.ownBlock] at hk
    omega
  · refine ⟨⟨hown.1, ?_⟩, ?_⟩
    rotate_left
    · subst hsize
      subst hby
      by_cases hroom : n + m ≤ cap
      · have hfit : n * i.size + news.length ≤ cur.size := by rw [hl, hcs, ← Nat.add_mul]; exact Nat.mul_le_mul_right _ hroom
        have hr2 := run_append_room (P := P) w t ty e i ht hi g n cap cur hg a m c news hl hnews h1 hroom hfit
        rw [hr] at hr2
        injection hr2 with hv _
        subst hv
        exact .inl rfl
      · refine .inr fun k hk => ?_
        have hr2 := run_append_grow (P := P) w t ty e i z ht hi hz ⟨g, 0, none⟩ n cap xs hown.1 (hown.cells (g := g) rfl) a m c news hl hnews (by omega) (by omega) (growslice_fits (by omega) hbytes)
        rw [hr] at hr2
        injection hr2 with hv _
        subst hv
        simp [Value.ownBlock] at hk
        omega
    subst hsize
    subst hby
    by_cases hroom : n + m ≤ cap
    · have hfit : n * i.size + news.length ≤ cur.size := by rw [hl, hcs, ← Nat.add_mul]; exact Nat.mul_le_mul_right _ hroom
      have hr2 := run_append_room (P := P) w t ty e i ht hi g n cap cur hg a m c news hl hnews h1 hroom hfit
      rw [hr] at hr2
      injection hr2 with _ hw
      subst hw
      refine .inr ⟨g, cap, _, rfl, hbg, setRow_heap w g cur _ e _ hg, hnc, hcm, ?_, ?_⟩
      · simp only [List.size_toArray, List.length_append, List.length_take, List.length_drop, Array.length_toList]
        omega
      · rw [htake, List.append_assoc, ← hown.1]
        exact List.take_left
    · have hr2 := run_append_grow (P := P) w t ty e i z ht hi hz ⟨g, 0, none⟩ n cap xs hown.1 (hown.cells (g := g) rfl) a m c news hl hnews (by omega) (by omega) (growslice_fits (by omega) hbytes)
      rw [hr] at hr2
      injection hr2 with _ hw
      subst hw
      exact .inr ⟨g, cap, cur, rfl, hbg, (Below.heap_alloc w.drew _ g (Array.getElem?_eq_some_iff.1 hg).1).trans hg, hnc, hcm, hcs, htake⟩

theorem wpList_append_keeps {w : World} {ops : Array Oper} {rest : List Oper} {o : Oper} {a : Act} {Q : Exit → Act → World → Prop} (hgd : o.guard = none) (s x : Operand) (t : TypeId)
    (ho : o.op = .call { callee := .builtin .append, args := #[s, x], argTypes := #[t, t] })
    (base : Nat) (e : TypeId) (i : TypeInfo) (z : Value) (size bytes : Nat) (ht : P.underlying t = some (.slice e)) (hi : P.info? e = some i) (hz : i.zero = some z)
    (hsize : i.size = size) (hby : i.bytes = bytes) (hzs : z.cells.size = size) (hsz : 0 < size)
    (v : Value) (n : Nat) (xs : List Value) (hs : a.eval s = v) (hown : w.ownsRow base e size v n xs)
    (ad : Addr) (m c : Nat) (news : List Value) (hx : a.eval x = .slice (some ad) m c) (hl : news.length = m * size) (hm1 : 0 < m) (hnews : ∀ j u, news[j]? = some u → w.cell? (ad.add j) = some u) (h1 : ∀ u ∈ news, u.oneCell' = true)
    (h63 : n + m ≤ 1000000000) (hbytes : (n + m) * bytes ≤ 140737488355328) (hbase : base ≤ w.heap.size)
    (h : ∀ v' w', w'.ownsRow base e size v' (n + m) (xs ++ news) → w'.ownsRow base e size v n xs → w.grownBy w' v.ownBlock → (v'.ownBlock = v.ownBlock ∨ ∀ k, v'.ownBlock = some k → w.heap.size ≤ k) → wpList P ops Q rest (a.put o.dst v') w') : wpList P ops Q (o :: rest) a w := by
  refine wpList_plain hgd fun K hK => ?_
  obtain ⟨v', w', hr, h2, h3, h4, h5⟩ := append_keeps (P := P) w base t o.type e i z size bytes ht hi hz hsize hby hzs hsz v n xs hown ad m c news hl hm1 hnews h1 h63 hbytes hbase
  unfold Oper.wp
  simp [execOp, ho, resolve, invoke, builtin, hs, hx, hr, Result.andThen]
  exact hK _ _ (h v' w' h2 h3 h4 h5)

/-- What was owned ahead of an append to another slice of the same beginnings is owned behind it. -/
theorem own_prefix {w : World} {B e size n n2 : Nat} {v v2 : Value} {xs ys : List Value} {w' : World} (h : w.ownsRow B e size v n xs) (hw : w.ownsRow B e size v2 n2 (xs ++ ys)) (h2 : w'.ownsRow B e size v2 n2 (xs ++ ys))
    (hn : n ≤ n2) (hg : w.grownBy w' v2.ownBlock) : w'.ownsRow B e size v n xs := by
  by_cases hb : v.ownBlock = none ∨ v.ownBlock ≠ v2.ownBlock
  · exact h.kept hg hb
  · simp only [not_or, ne_eq, Classical.not_not] at hb
    refine ⟨h.1, ?_⟩
    rcases h.2 with h0 | ⟨g, cap, cur, rfl, hbg, hh, hnc, hcm, hcs, htk⟩
    · exact .inl h0
    · rcases h2.2 with ⟨rfl, _⟩ | ⟨g2, cap2, cur2, rfl, hbg2, hh2, hnc2, hcm2, hcs2, htk2⟩
      · simp [Value.ownBlock] at hb
      · have e1 : g = g2 := by simpa [Value.ownBlock] using hb.2
        subst e1
        rcases hw.2 with ⟨h3, _⟩ | ⟨g3, cap3, cur3, h3, _, hh3, _, _, hcs3, _⟩
        · simp at h3
        · simp at h3
          obtain ⟨rfl, rfl⟩ := h3
          have e2 : cur3 = cur := by rw [hh] at hh3; simpa using hh3.symm
          subst e2
          refine .inr ⟨g, cap, cur2, rfl, hbg, hh2, hnc, hcm, by rw [hcs2, ← hcs3, hcs], ?_⟩
          have : cur2.toList.take (n * size) = (cur2.toList.take (n2 * size)).take (n * size) := by
            rw [List.take_take, Nat.min_eq_left (Nat.mul_le_mul_right _ hn)]
          rw [this, htk2, ← h.1]
          exact List.take_left

/-- copy into a row from its head: elements of any size, all of the source fits. -/
theorem run_copy_sz (w : World) (dT sT ty elem : TypeId) (size g dLen dCap : Nat) (sp : Option Addr) (sLen sCap : Nat) (cur : Array Value) (t : TypeId) (cs : List Value)
    (hu : P.underlying dT = some (.slice elem)) (hs : (P.info? elem).map (·.size) = some size) (hg : w.heap[g]? = some (.cells cur t (0, 0))) (hn : sLen ≤ dLen) (hcs : cs.length = sLen * size)
    (hnone : sp = none → sLen = 0) (hsrc : ∀ ad, sp = some ad → ∀ j v, cs[j]? = some v → w.cell? (ad.add j) = some v) (hfit : cs.length ≤ cur.size) (h1 : ∀ v ∈ cs, v.oneCell' = true) :
    (Builtin.copy_ #[dT, sT] ty #[.slice (some ⟨g, 0, none⟩) dLen dCap, .slice sp sLen sCap]).run P w = .ok (goInt sLen) (w.setRow g (cs ++ cur.toList.drop cs.length).toArray) := by
  have hst := run_storeCells_at P g 0 t cs 0 cur w hg (by simpa using hfit) h1
  have hm : Nat.min sLen dLen = sLen := Nat.min_eq_left hn
  cases hq : P.info? elem with
  | none => simp [hq] at hs
  | some i =>
    have hi : i.size = size := by simpa [hq] using hs
    cases sp with
    | none =>
      obtain rfl := hnone rfl
      clear hi
      have : cs = [] := List.eq_nil_of_length_eq_zero (by simpa using hcs)
      subst this
      simp at hst
      simp [Builtin.copy_, run_underlying hu, Builtin.lenOf, Builtin.firstCells, sizeOf, typeInfo, hq, hst]
    | some ad =>
      have hl := run_loadCells_list (P := P) w ad cs (hsrc ad rfl)
      simp at hst
      simp [Builtin.copy_, run_underlying hu, Builtin.lenOf, Builtin.firstCells, sizeOf, typeInfo, hq, hi, hm, ← hcs, hl, hst]

theorem wpList_copy_sz {w : World} {ops : Array Oper} {rest : List Oper} {o : Oper} {a : Act} {Q : Exit → Act → World → Prop} (hgd : o.guard = none) (d s : Operand) (dT sT : TypeId)
    (ho : o.op = .call { callee := .builtin .copy, args := #[d, s], argTypes := #[dT, sT] }) (elem : TypeId) (size : Nat) (hu : P.underlying dT = some (.slice elem)) (hs : (P.info? elem).map (·.size) = some size)
    (g dLen dCap : Nat) (sp : Option Addr) (sLen sCap : Nat) (hd : a.eval d = .slice (some ⟨g, 0, none⟩) dLen dCap) (hsv : a.eval s = .slice sp sLen sCap)
    (cur : Array Value) (t : TypeId) (hg : w.heap[g]? = some (.cells cur t (0, 0))) (hn : sLen ≤ dLen) (cs : List Value) (hcs : cs.length = sLen * size)
    (hnone : sp = none → sLen = 0) (hsrc : ∀ ad, sp = some ad → ∀ j v, cs[j]? = some v → w.cell? (ad.add j) = some v) (hfit : cs.length ≤ cur.size) (h1 : ∀ v ∈ cs, v.oneCell' = true) (B : Nat) (w0 : World) (hb : Below B w0 w) (hBg : B ≤ g)
    (h : ∀ w', w'.heap[g]? = some (.cells (cs ++ cur.toList.drop cs.length).toArray t (0, 0)) → Below B w0 w' → w'.heap.size = w.heap.size → wpList P ops Q rest (a.put o.dst (goInt sLen)) w') : wpList P ops Q (o :: rest) a w := by
  refine wpList_plain hgd fun K hK => ?_
  have hrun := run_copy_sz (P := P) w dT sT o.type elem size g dLen dCap sp sLen sCap cur t cs hu hs hg hn hcs hnone hsrc hfit h1
  unfold Oper.wp
  simp [execOp, ho, resolve, invoke, builtin, hd, hsv, hrun, Result.andThen]
  exact hK _ _ (h _ (setRow_heap w g cur _ t _ hg) (below_setRow hb hBg _) (size_setRow _ _ _))
end
end Go.Proofs.YtilkdeghknjjhaaGreatDoor
/- The contracts of compareDots and what it calls. -/
namespace Go.Proofs.YtilkdeghknjjhaaGreatDoor
open Go.RowKit M
set_option linter.unusedVariables false

/-- How two numbers lie to one another. -/
def cmpI (a b : Int) : Int := if a < b then -1 else if b < a then 1 else 0
def orI (x y : Int) : Int := if x = 0 then y else x
def cmpD (a b : Int) (c d : Int) : Int := orI (cmpI a c) (cmpI b d)

set_option maxHeartbeats 400000 in
theorem isNaN_any (a : Int) (w : World) : Calls Tryz.prog 281 #[.int .i64 a] w fun e w' => e = .returned (.bool false) ∧ w' = w := by
  go_enter Tryz.func281, Tryz.ntmps281
  go_wp2
  go_ret
  exact ⟨rfl, rfl⟩

set_option maxHeartbeats 400000 in
theorem Compare_any (a b : Int) (w : World) : Calls Tryz.prog 267 #[.int .i64 a, .int .i64 b] w fun e w' => e = .returned (.int .i64 (cmpI a b)) ∧ w' = w := by
  by_cases h1 : a < b
  · have e : cmpI a b = -1 := by simp [cmpI, h1]
    rw [e]; clear e
    go_enter Tryz.func267, Tryz.ntmps267
    go_wp2_with fail
    refine (isNaN_any a w).mono ?_
    rintro e w1 ⟨rfl, rfl⟩
    go_wp2_with fail
    refine (isNaN_any b _).mono ?_
    rintro e w1 ⟨rfl, rfl⟩
    go_wp2
    go_ret
    exact ⟨rfl, rfl⟩
  · by_cases h2 : b < a
    · have e : cmpI a b = 1 := by simp [cmpI, h1, h2]
      rw [e]; clear e
      go_enter Tryz.func267, Tryz.ntmps267
      go_wp2_with fail
      refine (isNaN_any a w).mono ?_
      rintro e w1 ⟨rfl, rfl⟩
      go_wp2_with fail
      refine (isNaN_any b _).mono ?_
      rintro e w1 ⟨rfl, rfl⟩
      go_wp2
      go_ret
      exact ⟨rfl, rfl⟩
    · have e : cmpI a b = 0 := by simp [cmpI, h1, h2]
      rw [e]; clear e
      go_enter Tryz.func267, Tryz.ntmps267
      go_wp2_with fail
      refine (isNaN_any a w).mono ?_
      rintro e w1 ⟨rfl, rfl⟩
      go_wp2_with fail
      refine (isNaN_any b _).mono ?_
      rintro e w1 ⟨rfl, rfl⟩
      go_wp2
      go_ret
      exact ⟨rfl, rfl⟩

set_option maxHeartbeats 400000 in
theorem Or_any (x y : Int) (b : Nat) (c : Nat) (w : World) (h0 : w.cell? ⟨b, 0, none⟩ = some (.int .i64 x)) (h1 : w.cell? ⟨b, 1, none⟩ = some (.int .i64 y)) :
    Calls Tryz.prog 266 #[.slice (some ⟨b, 0, none⟩) 2 c] w fun e w' => e = .returned (.int .i64 (orI x y)) ∧ w' = w := by
  go_enter Tryz.func266, Tryz.ntmps266
  go_wp2
  go_loop [5, 8] (fun _ i => ∃ k : Nat, k ≤ 2 ∧ i = .int .i64 k ∧ Hid ((0 < k → x = 0) ∧ (1 < k → y = 0))) (fun _ i => 2 - (intOf i).toNat)
  case atStart => exact ⟨0, by omega, rfl, ⟨fun h => by omega, fun h => by omega⟩⟩
  case round =>
    obtain ⟨k, hk, rfl, hz⟩ := hrel
    by_cases h20 : k = 0
    · subst h20
      clear hz hk
      by_cases hx : x = 0
      · have t : (x != 0) = false := by simp [hx]
        have HX : Hid (x = 0) := hx
        clear hx
        go_wp2
        go_round
        case rel => exact ⟨1, by omega, rfl, ⟨fun _ => HX.out, fun h => by omega⟩⟩
        case measure => simp [intOf]
      · have t : (x != 0) = true := by simp [hx]
        have HX : Hid (¬ x = 0) := hx
        clear hx
        go_wp2
        go_ret
        exact ⟨by unfold orI; rw [if_neg HX.out]; rfl, rfl⟩
    · by_cases h21 : k = 1
      · subst h21
        have hx := hz.out.1 (by omega)
        have HX : Hid (x = 0) := hx
        clear hz hk hx
        by_cases hy : y = 0
        · have t : (y != 0) = false := by simp [hy]
          have HY : Hid (y = 0) := hy
          clear hy
          go_wp2
          go_round
          case rel => exact ⟨2, by omega, rfl, ⟨fun _ => HX.out, fun _ => HY.out⟩⟩
          case measure => simp [intOf]
        · have t : (y != 0) = true := by simp [hy]
          clear hy
          go_wp2
          go_ret
          exact ⟨by unfold orI; rw [if_pos HX.out]; rfl, rfl⟩
      · have h22 : k = 2 := by omega
        subst h22
        have HX : Hid (x = 0) := hz.out.1 (by omega)
        have HY : Hid (y = 0) := hz.out.2 (by omega)
        clear hz
        go_wp2
        go_ret
        exact ⟨by unfold orI; rw [if_pos HX.out, HY.out]; rfl, rfl⟩

set_option maxRecDepth 40000 in
set_option maxHeartbeats 1600000 in
theorem compareDots_any (a b : Int) (s : ByteArray) (c d : Int) (t : ByteArray) (w : World) :
    Calls Tryz.prog 233 #[.agg #[.int .i64 a, .int .i64 b, .string s], .agg #[.int .i64 c, .int .i64 d, .string t]] w fun e w' => e = .returned (.int .i64 (cmpD a b c d)) ∧ Below w.heap.size w w' := by
  go_enter Tryz.func233, Tryz.ntmps233
  go_wp2_with fail
  obtain ⟨W, hW, hb, c0, c1, d0, d1⟩ : ∃ W, ((w.alloc (.cells #[.int .i64 a, .int .i64 b, .string s] 122)).alloc (.cells #[.int .i64 c, .int .i64 d, .string t] 122)) = W ∧ Below w.heap.size w W ∧
      W.cell? ⟨w.heap.size, 0, none⟩ = some (.int .i64 a) ∧ W.cell? ⟨w.heap.size, 1, none⟩ = some (.int .i64 b) ∧ W.cell? ⟨w.heap.size + 1, 0, none⟩ = some (.int .i64 c) ∧ W.cell? ⟨w.heap.size + 1, 1, none⟩ = some (.int .i64 d) :=
    ⟨_, rfl, ((Below.refl _ _).alloc (Nat.le_refl _) _).alloc (by simp) _, by simp [go_sem], by simp [go_sem], by simp [go_sem], by simp [go_sem]⟩
  rw [hW]
  clear hW
  have HB : Hid (Below w.heap.size w W) := hb
  have hsz := hb.size
  clear hb
  obtain ⟨B, hB⟩ : ∃ B, w.heap.size = B := ⟨_, rfl⟩
  rw [hB] at c0 c1 d0 d1
  rw [hB]
  clear hB hsz
  go_region_held3 (fun w' => w'.cell? ⟨B, 0, none⟩ = some (.int .i64 a) ∧ w'.cell? ⟨B, 1, none⟩ = some (.int .i64 b) ∧ w'.cell? ⟨B + 1, 0, none⟩ = some (.int .i64 c) ∧ w'.cell? ⟨B + 1, 1, none⟩ = some (.int .i64 d)) (go_keep)
    (first
    | (go_at_call_of 267 (Value.int IntKind.i64 a); refine (Compare_any a c _).mono ?_; rintro e w1 ⟨rfl, rfl⟩)
    | (go_at_call_of 267 (Value.int IntKind.i64 b); refine (Compare_any b d _).mono ?_; rintro e w1 ⟨rfl, rfl⟩)
    | (go_at_call 266; refine (Or_any (cmpI a c) (cmpI b d) _ _ _ ?_ ?_).mono ?_; (simp [go_sem]); (simp [go_sem]); rintro e w1 ⟨rfl, rfl⟩))
  all_goals
    go_wp2
    go_ret
    have hb := HB.out
    exact ⟨rfl, by repeat (first | exact hb | refine below_drewN ?_ _ | refine Below.drew ?_ | refine Below.alloc ?_ (by have := hb.size; first | omega | (simp; omega)) _)⟩
end Go.Proofs.YtilkdeghknjjhaaGreatDoor
/- What it is for a slice to read as a list of values with dots; BinarySearchFunc. -/
namespace Go.Proofs.YtilkdeghknjjhaaGreatDoor
open Go.RowKit Go.Sort M
set_option linter.unusedVariables false

/-- A value with its dot. -/
structure Sb where
  n : Int
  c : Int
  v : ByteArray
def Sb.z : Sb := ⟨0, 0, ByteArray.empty⟩
def Sb.val (x : Sb) : Value := .agg #[.int .i64 x.n, .int .i64 x.c, .string x.v]
def sb (l : List Sb) (i : Nat) : Sb := l.getD i Sb.z
theorem sb_get (l : List Sb) (i : Nat) (h : i < l.length) : sb l i = l[i] := by simp [sb, List.getD, List.getElem?_eq_getElem h]

/-- A slice of values that reads as a list. -/
def RdS (w : World) (v : Value) (l : List Sb) : Prop :=
  ∃ a cap, v = .slice a l.length cap ∧ l.length ≤ cap ∧ cap ≤ 9223372036854775807 ∧
    (0 < l.length → ∃ b off, a = some ⟨b, off, none⟩ ∧ ∀ j, j < l.length → w.cell? ⟨b, off + j * 3, none⟩ = some (.int .i64 (sb l j).n) ∧ w.cell? ⟨b, off + j * 3 + 1, none⟩ = some (.int .i64 (sb l j).c) ∧ w.cell? ⟨b, off + j * 3 + 2, none⟩ = some (.string (sb l j).v))
theorem RdS.nil (w : World) : RdS w (.slice none 0 0) [] := ⟨none, 0, rfl, Nat.le_refl _, by omega, fun h => absurd h (by simp)⟩
theorem RdS.below {w w' : World} {v : Value} {l : List Sb} (h : RdS w v l) (hb : Below w.heap.size w w') : RdS w' v l := by
  obtain ⟨a, cap, hv, h1, h2, h3⟩ := h
  refine ⟨a, cap, hv, h1, h2, fun h0 => ?_⟩
  obtain ⟨b, off, ha, hc⟩ := h3 h0
  exact ⟨b, off, ha, fun j hj => ⟨cell_later hb (hc j hj).1, cell_later hb (hc j hj).2.1, cell_later hb (hc j hj).2.2⟩⟩
theorem RdS.shape {w : World} {v : Value} {l : List Sb} (h : RdS w v l) : ∃ a cap, v = .slice a l.length cap := by
  obtain ⟨a, cap, hv, _⟩ := h
  exact ⟨a, cap, hv⟩
/-- The cells of a list of values. -/
def cellsS : List Sb → List Value
  | [] => []
  | e :: r => .int .i64 e.n :: .int .i64 e.c :: .string e.v :: cellsS r
theorem cellsS_len : ∀ l, (cellsS l).length = l.length * 3
  | [] => rfl
  | e :: r => by simp [cellsS, cellsS_len r]; omega
theorem cellsS_at : ∀ (l : List Sb) (j : Nat), j < l.length → (cellsS l)[j * 3]? = some (.int .i64 (sb l j).n) ∧ (cellsS l)[j * 3 + 1]? = some (.int .i64 (sb l j).c) ∧ (cellsS l)[j * 3 + 2]? = some (.string (sb l j).v)
  | [], j, h => absurd h (by simp)
  | e :: r, 0, _ => by simp [cellsS, sb]
  | e :: r, j + 1, h => by
    have := cellsS_at r j (by simpa using h)
    rw [show (j + 1) * 3 = j * 3 + 1 + 1 + 1 by omega]
    simpa [cellsS, sb] using this
theorem cellsS_append : ∀ (l m : List Sb), cellsS (l ++ m) = cellsS l ++ cellsS m
  | [], m => rfl
  | x :: r, m => by simp [cellsS, cellsS_append r m]
theorem cellsS_snoc (l : List Sb) (e : Sb) : cellsS (l ++ [e]) = cellsS l ++ [.int .i64 e.n, .int .i64 e.c, .string e.v] := by rw [cellsS_append]; rfl
theorem one_cellsS : ∀ (l : List Sb), ∀ u ∈ cellsS l, u.oneCell' = true
  | [], u, h => absurd h (by simp [cellsS])
  | e :: r, u, h => by
    simp only [cellsS, List.mem_cons] at h
    rcases h with rfl | rfl | rfl | h
    · rfl
    · rfl
    · rfl
    · exact one_cellsS r u h
theorem RdS.own {w : World} {B n : Nat} {v : Value} {l : List Sb} (h : w.ownsRow B 122 3 v n (cellsS l)) (hn : n = l.length) : RdS w v l := by
  subst hn
  obtain ⟨h1, h2⟩ := h
  rcases h2 with ⟨hv, h0⟩ | ⟨g, cap, cur, hv, hg, hh, hle, hm, hsz, htk⟩
  · have : l = [] := List.eq_nil_of_length_eq_zero h0
    subst this; subst hv; exact RdS.nil w
  · refine ⟨_, cap, hv, hle, by simp only [maxLen] at hm; omega, fun h0 => ⟨g, 0, rfl, fun j hj => ?_⟩⟩
    have hc : ∀ k, k < l.length * 3 → w.cell? ⟨g, 0 + k, none⟩ = (cellsS l)[k]? := by
      intro k hk
      rw [cell_of_row w g (0 + k) cur 122 (0, 0) hh, ← htk, List.getElem?_take, if_pos hk]
      simp
    have := cellsS_at l j hj
    exact ⟨(hc _ (by omega)).trans this.1, by rw [Nat.add_assoc]; exact (hc _ (by omega)).trans this.2.1, by rw [Nat.add_assoc]; exact (hc _ (by omega)).trans this.2.2⟩

/-- How two values lie to one another, by their dots. -/
def cd (x y : Sb) : Int := cmpD x.n x.c y.n y.c

/-- Where a value belongs, as the search tells it. -/
def BSEnd (w : World) (l : List Sb) (x : Sb) (e : Ending) (w' : World) : Prop :=
  ∃ (k : Nat) (f : Bool), e = .returned (.tuple #[.int .i64 k, .bool f]) ∧ k ≤ l.length ∧ (0 < k → cd (sb l (k - 1)) x < 0) ∧ (k < l.length → 0 ≤ cd (sb l k) x) ∧ Below w.heap.size w w'

set_option maxRecDepth 40000 in
set_option maxHeartbeats 1600000 in
theorem BinarySearch_any (v : Value) (l : List Sb) (x : Sb) (w : World) (hrd : RdS w v l) (hl : l.length ≤ 1000) :
    Calls Tryz.prog 234 #[v, .agg #[.int .i64 x.n, .int .i64 x.c, .string x.v], .func (Fn.func 233) #[] #[]] w fun e w' => BSEnd w l x e w' := by
  obtain ⟨a, cap, rfl, hlc, hc, hA⟩ := hrd
  have hl1 : (l.length : Int) ≤ 1000 := by omega
  clear hlc hc
  go_enter Tryz.func234, Tryz.ntmps234
  go_wp2_with fail
  obtain ⟨W, hW, hb, t0, t1, t2⟩ : ∃ W, (w.alloc (.cells #[.int .i64 x.n, .int .i64 x.c, .string x.v] 122)) = W ∧ Below w.heap.size w W ∧
      W.cell? ⟨w.heap.size, 0, none⟩ = some (.int .i64 x.n) ∧ W.cell? ⟨w.heap.size, 1, none⟩ = some (.int .i64 x.c) ∧ W.cell? ⟨w.heap.size, 2, none⟩ = some (.string x.v) :=
    ⟨_, rfl, (Below.refl _ _).alloc (Nat.le_refl _) _, by simp [go_sem], by simp [go_sem], by simp [go_sem]⟩
  rw [hW]
  clear hW
  have HT : Hid (W.cell? ⟨w.heap.size, 0, none⟩ = some (.int .i64 x.n) ∧ W.cell? ⟨w.heap.size, 1, none⟩ = some (.int .i64 x.c) ∧ W.cell? ⟨w.heap.size, 2, none⟩ = some (.string x.v)) := ⟨t0, t1, t2⟩
  have HB : Hid (Below w.heap.size w W) := hb
  have hwsz := hb.size
  clear t0 t1 t2 hb
  go_loopw [9, 10, 11] (fun p q _ wr => ∃ i j : Nat, i ≤ j ∧ j ≤ l.length ∧ p = .int .i64 i ∧ q = .int .i64 j ∧ Hid (0 < i → cd (sb l (i - 1)) x < 0) ∧ Hid (j < l.length → 0 ≤ cd (sb l j) x) ∧ Below W.heap.size W wr)
    (fun p q _ _ => (intOf q).toNat - (intOf p).toNat)
  case atStart => exact ⟨0, l.length, by omega, by omega, rfl, rfl, fun h => by omega, fun h => by omega, Below.refl _ _⟩
  case round =>
    obtain ⟨i, j, hij, hjl, rfl, rfl, hi, hj, hb⟩ := hrel
    have hsz := hb.size
    by_cases hlt : i < j
    · obtain ⟨b, off, rfl, hr⟩ := hA (by omega)
      have hhl : (i + j) / 2 < l.length := by omega
      have q0 : (0 : Int) ≤ ((i : Int) + (j : Int)) / 2 := by omega
      have q1 : ((i : Int) + (j : Int)) / 2 < (l.length : Int) := by omega
      have q2 : (i : Int) + (j : Int) ≤ 2000 := by omega
      have qh : (((i : Int) + (j : Int)) / 2).toNat = (i + j) / 2 := by omega
      have e0 := cell_regrown (cell_later hb (cell_later HB.out (hr ((i + j) / 2) hhl).1))
      have e1 := cell_regrown (cell_later hb (cell_later HB.out (hr ((i + j) / 2) hhl).2.1))
      have e2 := cell_regrown (cell_later hb (cell_later HB.out (hr ((i + j) / 2) hhl).2.2))
      have f0 := cell_regrown (cell_later hb HT.out.1)
      have f1 := cell_regrown (cell_later hb HT.out.2.1)
      have f2 := cell_regrown (cell_later hb HT.out.2.2)
      have HC : Hid (∀ d os, Calls Tryz.prog 233 #[.agg #[.int .i64 (sb l ((i + j) / 2)).n, .int .i64 (sb l ((i + j) / 2)).c, .string (sb l ((i + j) / 2)).v], .agg #[.int .i64 x.n, .int .i64 x.c, .string x.v]] (grow (redrawn wr d) os) fun e w'' => e = .returned (.int .i64 (cd (sb l ((i + j) / 2)) x)) ∧ ∃ p : Regrown, w'' = grow (redrawn wr p.d) p.os) :=
        fun d os => Calls.regrown_of (compareDots_any _ _ _ _ _ _ _)
      obtain ⟨r, hr2⟩ : ∃ r, cd (sb l ((i + j) / 2)) x = r := ⟨_, rfl⟩
      have HR : Hid (cd (sb l ((i + j) / 2)) x = r) := hr2
      rw [hr2] at HC
      clear hA hr hr2
      go_wp2_with fail
      refine wp_region_quiet_below (by kernel_rfl) (by kernel_rfl) ?_
      repeat (quiet_step (first | (go_at_call 233; exact HC.out _ _)))
      refine wpQuiet_nil ?_
      intro _ hw'
      obtain ⟨⟨dq, osq⟩, hw''⟩ := hw'
      subst hw''
      by_cases hneg : r < 0
      · go_wp2
        go_roundw
        case rel => exact ⟨(i + j) / 2 + 1, j, by omega, hjl, by congr 1, rfl, fun _ => by rw [Nat.add_sub_cancel, HR.out]; exact hneg, hj, hb.trans ((below_regrown wr dq osq).mono hsz)⟩
        case measure => simp [intOf]; omega
      · go_wp2
        go_roundw
        case rel => exact ⟨i, (i + j) / 2, by omega, by omega, rfl, by congr 1, hi, fun _ => by rw [HR.out]; omega, hb.trans ((below_regrown wr dq osq).mono hsz)⟩
        case measure => simp [intOf]; omega
    · have hije : i = j := by omega
      subst hije
      have hbw : Below w.heap.size w wr := HB.out.trans (hb.mono hwsz)
      by_cases hin : i < l.length
      · obtain ⟨b, off, rfl, hr⟩ := hA (by omega)
        have q1 : (i : Int) < (l.length : Int) := by omega
        have e0 := cell_regrown (cell_later hb (cell_later HB.out (hr i hin).1))
        have e1 := cell_regrown (cell_later hb (cell_later HB.out (hr i hin).2.1))
        have e2 := cell_regrown (cell_later hb (cell_later HB.out (hr i hin).2.2))
        have f0 := cell_regrown (cell_later hb HT.out.1)
        have f1 := cell_regrown (cell_later hb HT.out.2.1)
        have f2 := cell_regrown (cell_later hb HT.out.2.2)
        have HC : Hid (∀ d os, Calls Tryz.prog 233 #[.agg #[.int .i64 (sb l i).n, .int .i64 (sb l i).c, .string (sb l i).v], .agg #[.int .i64 x.n, .int .i64 x.c, .string x.v]] (grow (redrawn wr d) os) fun e w'' => e = .returned (.int .i64 (cd (sb l i) x)) ∧ ∃ p : Regrown, w'' = grow (redrawn wr p.d) p.os) :=
          fun d os => Calls.regrown_of (compareDots_any _ _ _ _ _ _ _)
        obtain ⟨r, hr2⟩ : ∃ r, cd (sb l i) x = r := ⟨_, rfl⟩
        rw [hr2] at HC
        clear hA hr hr2
        have gd : decide ((i : Int) < (l.length : Int)) = true := by simp; omega
        go_wp2_with fail
        refine wp_region_quiet_below (by kernel_rfl) (by kernel_rfl) ?_
        repeat (quiet_step (first | (go_at_call 233; exact HC.out _ _)))
        refine wpQuiet_nil ?_
        intro _ hw'
        obtain ⟨⟨dq, osq⟩, hw''⟩ := hw'
        subst hw''
        go_wp2
        go_ret2
        exact ⟨i, _, rfl, hjl, hi.out, hj.out, hbw.trans ((below_regrown wr dq osq).mono hbw.size)⟩
      · have gd : decide ((i : Int) < (l.length : Int)) = false := by simp; omega
        clear hA
        go_wp2_with fail
        go_quiet (fail)
        go_wp2
        go_ret2
        exact ⟨i, _, rfl, hjl, hi.out, hj.out, below_drewN hbw _⟩
end Go.Proofs.YtilkdeghknjjhaaGreatDoor
