/- The plain facts behind Beside: sets of one node. -/
import Derived.Test.YtkiipmdplpcfeaaZ5
import Derived.Test.YtkiipmdplpcfeaaO
namespace Go.Proofs.Ytkiipmdplpcfeaa
open Go.RowKit M
set_option linter.unusedVariables false

/-- A clock that has seen what one node has counted so far, and nothing else. -/
def Own1 (sc : List (Int × Int)) (n i : Int) : Prop := US sc ∧ ∀ m, cS sc m = if m = n then i else 0
theorem Own1.len {sc : List (Int × Int)} {n i : Int} (h : Own1 sc n i) : sc.length ≤ 1 := by
  have hm : ∀ e ∈ sc, e.1 = n := by
    intro e he
    have h1 := cS_mem h.1 he
    have h2 := h.2 e.1
    have h3 := (h.1.2 e he).2.2.1
    by_cases hn : e.1 = n
    · exact hn
    · rw [if_neg hn] at h2; omega
  match sc, h, hm with
  | [], _, _ => simp
  | [_], _, _ => simp
  | a :: b :: r, h, hm =>
    have h1 := hm a (by simp)
    have h2 := hm b (by simp)
    have h3 := (List.pairwise_cons.1 h.1.1).1 b (by simp)
    omega
theorem Own1.clk {sc : List (Int × Int)} {n i : Int} (h : Own1 sc n i) : Clk sc := (clk_iff sc).2 ⟨by have := h.len; omega, h.1⟩
theorem own1_nil (n : Int) : Own1 [] n 0 := ⟨⟨by simp, by simp⟩, fun m => by simp [cS]⟩
theorem own1_one {n k : Int} (h : Dot n k) : Own1 [(n, k)] n k := by
  refine ⟨⟨by simp, fun e he => by simp at he; subst he; exact h⟩, fun m => ?_⟩
  have := h.2.2.1
  by_cases hm : n = m
  · subst hm; simp [cS]; omega
  · simp [cS, hm, Ne.symm hm]
theorem own1_jn {sc c : List (Int × Int)} {n i k j : Int} (h : Own1 sc n i) (hc : Own1 c n k) (hd : Dot n j) (hi : i ≤ j) (hk : k ≤ j) : Own1 (jn [sc, c, [(n, j)]]) n j := by
  have hu : ∀ q, q < [sc, c, [(n, j)]].length → US ([sc, c, [(n, j)]].getD q []) := by
    intro q hq
    match q, hq with
    | 0, _ => exact h.1
    | 1, _ => exact hc.1
    | 2, _ => exact (own1_one hd).1
  have hU := US_jn hu
  have hn0 := hd.1
  have hn1 := hd.2.1
  have hj := hd.2.2.1
  refine ⟨hU, fun m => ?_⟩
  by_cases hm : 0 ≤ m ∧ m < 16
  · obtain ⟨q, rfl⟩ : ∃ q : Nat, m = q := ⟨m.toNat, by omega⟩
    rw [cS_jn hu q (by omega)]
    have e1 := h.2 (q : Int)
    have e2 := hc.2 (q : Int)
    have e3 := (own1_one hd).2 (q : Int)
    simp only [List.length_cons, List.length_nil, mxS, List.getD_cons_zero, List.getD_cons_succ]
    rw [e1, e2, e3]
    split <;> omega
  · rw [cS_none (fun e he => by have := hU.2 e he; have := this.1; have := (hU.2 e he).2.1; omega), if_neg (by omega)]

/-- Values of one node, in order, up to a count. -/
def LOK (n i : Int) (L : List Sb) : Prop := L.Pairwise (fun x y => x.c < y.c) ∧ L.length ≤ 6 ∧ ∀ x ∈ L, x.n = n ∧ 1 ≤ x.c ∧ x.c ≤ i ∧ x.v.size ≤ 200
theorem cd_lt {n : Int} {x y : Sb} (hx : x.n = n) (hy : y.n = n) (h : x.c < y.c) : cd x y < 0 := by
  unfold cd cmpD orI cmpI
  rw [hx, hy]
  simp [h]
theorem LOK.set {sc : List (Int × Int)} {n i : Int} {L : List Sb} (h : LOK n i L) (hs : Own1 sc n i) (hn0 : 0 ≤ n) (hn1 : n ≤ 15) (hi : i ≤ 4611686018427387904) : SetOK sc L := by
  refine ⟨hs.clk, h.2.1, fun k hk => ?_⟩
  have hm := h.2.2 (sb L k) (by rw [sb_get L k hk]; exact List.getElem_mem hk)
  refine ⟨⟨by omega, by omega, hm.2.1, by omega⟩, by rw [hs.2, if_pos hm.1]; exact hm.2.2.1, hm.2.2.2, fun h0 => ?_⟩
  have hm' := h.2.2 (sb L (k - 1)) (by rw [sb_get L (k - 1) (by omega)]; exact List.getElem_mem _)
  refine cd_lt hm'.1 hm.1 ?_
  rw [sb_get L k hk, sb_get L (k - 1) (by omega)]
  exact List.pairwise_iff_getElem.1 h.1 (k - 1) k (by omega) hk (by omega)
theorem lok_un {n i : Int} {L : List Sb} (h : LOK n i L) (c : List (Int × Int)) : LOK n i (un c L) :=
  ⟨h.1.filter _, Nat.le_trans (List.length_filter_le _ _) h.2.1, fun x hx => h.2.2 x (List.mem_filter.1 hx).1⟩
theorem LOK.snoc {n i : Int} {L : List Sb} (h : LOK n i L) (hi : 0 ≤ i) (h5 : L.length ≤ 5) (s : ByteArray) (hs : s.size ≤ 200) : LOK n (i + 1) (L ++ [⟨n, i + 1, s⟩]) := by
  refine ⟨?_, by simp; omega, fun x hx => ?_⟩
  · rw [List.pairwise_append]
    exact ⟨h.1, by simp, fun x hx y hy => by simp at hy; subst hy; have := (h.2.2 x hx).2.2.1; show x.c < i + 1; omega⟩
  · rcases List.mem_append.1 hx with h1 | h1
    · have := h.2.2 x h1; exact ⟨this.1, this.2.1, by omega, this.2.2.2⟩
    · simp at h1; subst h1; exact ⟨rfl, by show 1 ≤ i + 1; omega, Int.le_refl _, hs⟩
theorem place_end {n i : Int} {L : List Sb} (h : LOK n i L) (s : ByteArray) {p : Nat} (hp : Place L ⟨n, i + 1, s⟩ p) : put L p ⟨n, i + 1, s⟩ = L ++ [⟨n, i + 1, s⟩] := by
  have he : p = L.length := by
    rcases Nat.lt_or_ge p L.length with hlt | hge
    · have h1 := hp.2.2 hlt
      have hm := h.2.2 (sb L p) (by rw [sb_get L p hlt]; exact List.getElem_mem hlt)
      have h2 := cd_lt (x := sb L p) (y := ⟨n, i + 1, s⟩) hm.1 rfl (by show _ < i + 1; omega)
      omega
    · have := hp.1; omega
  subst he
  simp [put]
theorem lok_seen {sc : List (Int × Int)} {n i : Int} {L : List Sb} (h : LOK n i L) (hs : Own1 sc n i) : un sc L = [] := by
  unfold un
  rw [List.filter_eq_nil_iff]
  intro x hx
  have := h.2.2 x hx
  rw [hs.2, if_pos this.1]
  simp; omega
theorem lok_none {n i : Int} {L : List Sb} (h : LOK n i L) : un [] L = L := by
  unfold un
  rw [List.filter_eq_self]
  intro x hx
  have := (h.2.2 x hx).2.1
  rw [show cS [] x.n = 0 from rfl, show decide (x.c ≤ 0) = false from decide_eq_false (by omega)]
  rfl
theorem lok_nil (n : Int) : LOK n 0 [] := ⟨by simp, by simp, by simp⟩
theorem upok {sc c : List (Int × Int)} {n i k : Int} {L : List Sb} (h : LOK n i L) (hs : Own1 sc n i) (hc : Own1 c n k) (hk : k ≤ i) (hn0 : 0 ≤ n) (hn1 : n ≤ 15) (hi0 : 0 ≤ i) (hi : i + 1 ≤ 4611686018427387904) {s : ByteArray} (h2 : s.size ≤ 200) : UpOK sc c L n (i + 1) s :=
  ⟨h.set hs hn0 hn1 (by omega), hc.clk, ⟨hn0, hn1, by omega, hi⟩, h2, by rw [hs.2, if_pos rfl]; omega, by rw [hc.2, if_pos rfl]; omega⟩
end Go.Proofs.Ytkiipmdplpcfeaa
