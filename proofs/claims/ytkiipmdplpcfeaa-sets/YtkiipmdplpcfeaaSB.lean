/- owned, own. -/
import Derived.Test.YtkiipmdplpcfeaaW2
import Derived.Test.YtkiipmdplpcfeaaR
import Derived.WalkKit
import Derived.WalkSpells
import Derived.WalkLawsBesides
import Derived.Deep.QuietTactic
import Derived.BigQuiet
namespace Go.Proofs.Ytkiipmdplpcfeaa
open Go.RowKit M
set_option linter.unusedVariables false

/-- A value that bears a mark alone. -/
def mkB (mark : Int) : Sb := ⟨mark, 0, ByteArray.mk #[]⟩
def mkS (mark : Int) (n : Nat) : List Sb := List.replicate n (mkB mark)
theorem mkS_len (mark : Int) (n : Nat) : (mkS mark n).length = n := by simp [mkS]
theorem sb_mkS (mark : Int) (n j : Nat) (h : j < n) : sb (mkS mark n) j = mkB mark := by
  rw [sb_get _ _ (by rw [mkS_len]; exact h)]
  simp [mkS]

set_option maxRecDepth 20000 in
set_option maxHeartbeats 800000 in
theorem owned_any (vc v : Value) (n m : Nat) (mark : Int) (w : World) (hrc : Rd w vc (mks mark n)) (hrd : RdS w v (mkS mark m)) (hm : m ≤ 1000) :
    Calls Try.prog 30 #[.agg #[vc, v], .int .i64 mark] w fun e w' => e = .returned (.bool true) ∧ Below w.heap.size w w' := by
  obtain ⟨p1, q1, rfl⟩ := hrc.shape
  obtain ⟨a, cap, rfl, _, _, hA⟩ := hrd
  rw [mkS_len] at hA
  rw [mkS_len]
  have hm1 : (m : Int) ≤ 1000 := by omega
  go_enter Try.func30, Try.ntmps30
  go_wp2_with fail
  have HB : Hid (Below w.heap.size w (w.alloc (.cells #[.slice p1 (mks mark n).length q1, .slice a m cap] 38))) := (Below.refl _ _).alloc (Nat.le_refl _) _
  have HT : Hid ((w.alloc (.cells #[.slice p1 (mks mark n).length q1, .slice a m cap] 38)).cell? ⟨w.heap.size, 0, none⟩ = some (.slice p1 (mks mark n).length q1) ∧ (w.alloc (.cells #[.slice p1 (mks mark n).length q1, .slice a m cap] 38)).cell? ⟨w.heap.size, 1, none⟩ = some (.slice a m cap)) := by
    show _ ∧ _
    exact ⟨by simp [go_sem], by simp [go_sem]⟩
  obtain ⟨W, hW⟩ : ∃ W, (w.alloc (.cells #[.slice p1 (mks mark n).length q1, .slice a m cap] 38)) = W := ⟨_, rfl⟩
  rw [hW] at HB HT
  rw [hW]
  clear hW
  go_loopw [5] (fun i wr => ∃ k : Nat, k ≤ m ∧ i = .int .i64 k ∧ Below W.heap.size W wr) (fun i _ => m - (intOf i).toNat)
  case atStart => exact ⟨0, Nat.zero_le _, rfl, Below.refl _ _⟩
  case round =>
    obtain ⟨k, hk, rfl, hb⟩ := hrel
    have hsz := hb.size
    have t0 := cell_later hb HT.out.1
    have t1 := cell_later hb HT.out.2
    have hb1 := HB.out.trans (hb.mono HB.out.size)
    by_cases hlt : k < m
    · obtain ⟨b, off, rfl, hr⟩ := hA (by omega)
      have hr1 := hr k hlt
      rw [sb_mkS mark m k hlt] at hr1
      have c1 : wr.cell? ⟨b, off + k * 3, none⟩ = some (.int .i64 mark) := cell_later hb1 hr1.1
      have c2 : wr.cell? ⟨b, off + k * 3 + 1, none⟩ = some (.int .i64 0) := cell_later hb1 hr1.2.1
      have c3 : wr.cell? ⟨b, off + k * 3 + 2, none⟩ = some (.string (ByteArray.mk #[])) := cell_later hb1 hr1.2.2
      have k1 : (k : Int) < (m : Int) := by omega
      have hg57 := guard57
      have hn57 := neq_sb (mkB mark) (mkB mark)
      rw [(sbEq_iff _ _).2 rfl] at hn57
      simp only [mkB] at hn57
      clear hA hr hr1
      go_wp2
      go_roundw
      case rel => exact ⟨k + 1, by omega, by go_num, hb⟩
      case measure => simp [intOf]; omega
    · have k1 : ¬ (k : Int) < (m : Int) := by omega
      have hrc1 := hrc.below hb1
      have hs1 := hb1.size
      clear hA
      go_wp2_with fail
      refine (filled_any _ n mark _ hrc1).mono ?_
      rintro e w1 ⟨rfl, hb2⟩
      have hb3 := hb1.trans (hb2.mono hs1)
      go_wp2
      go_ret
      exact ⟨rfl, hb3⟩

/-- Two rows alone, and what is new, have turned. -/
structure Only (w w' : World) (r s : Option Nat) : Prop where
  os : w'.os = w.os
  tape : w'.tape = w.tape
  output : w'.output = w.output
  size : w.heap.size ≤ w'.heap.size
  block : ∀ k, k < w.heap.size → some k ≠ r → some k ≠ s → w'.heap[k]? = w.heap[k]?
theorem Only.below {B : Nat} {a w w' : World} {r s : Option Nat} (h : Below B a w) (hg : Only w w' r s) (hB : B ≤ w.heap.size) (hr : ∀ k, r = some k → B ≤ k) (hs : ∀ k, s = some k → B ≤ k) : Below B a w' :=
  h.trans ⟨hg.os, hg.tape, hg.output, hg.size, fun k hk => hg.block k (by omega) (fun e => by have := hr k e.symm; omega) (fun e => by have := hs k e.symm; omega)⟩
theorem Only.kept {w w' : World} {r s : Option Nat} {B n : Nat} {e : TypeId} {size : Nat} {v : Value} {xs : List Value} (h : w.ownsRow B e size v n xs) (hg : Only w w' r s) (h1 : v.ownBlock = none ∨ v.ownBlock ≠ r) (h2 : v.ownBlock = none ∨ v.ownBlock ≠ s) : w'.ownsRow B e size v n xs := by
  refine ⟨h.1, ?_⟩
  rcases h.2 with hn | ⟨g, cap, cur, rfl, hb, hgg, rest⟩
  · exact .inl hn
  · refine .inr ⟨g, cap, cur, rfl, hb, ?_, rest⟩
    rw [hg.block g (Array.getElem?_eq_some_iff.1 hgg).1 ?_ ?_]
    · exact hgg
    · rcases h1 with h1 | h1
      · simp [Value.ownBlock] at h1
      · simpa [Value.ownBlock] using h1
    · rcases h2 with h2 | h2
      · simp [Value.ownBlock] at h2
      · simpa [Value.ownBlock] using h2
theorem own_apart {w : World} {B C n m : Nat} {e f : TypeId} {s t : Nat} {v u : Value} {xs ys : List Value} (h : w.ownsRow B e s v n xs) (k : w.ownsRow C f t u m ys) (hne : e ≠ f) : v.ownBlock = none ∨ v.ownBlock ≠ u.ownBlock := by
  rcases h.2 with ⟨rfl, _⟩ | ⟨g, cap, cur, rfl, _, hg, _⟩
  · exact .inl rfl
  · refine .inr fun e => ?_
    rcases k.2 with ⟨rfl, _⟩ | ⟨g2, cap2, cur2, rfl, _, hg2, _⟩
    · simp [Value.ownBlock] at e
    · simp [Value.ownBlock] at e
      subst e
      rw [hg] at hg2
      simp at hg2
      exact hne hg2.2
/-- Behind k rounds. -/
def fillS (l : List Sb) (mark : Int) : Nat → List Sb
  | 0 => l
  | k + 1 => (fillS l mark k).set k (mkB mark)
theorem fillS_len (l : List Sb) (mark : Int) : ∀ k, (fillS l mark k).length = l.length
  | 0 => rfl
  | k + 1 => by simp [fillS, fillS_len l mark k]
theorem fillS_at (l : List Sb) (mark : Int) : ∀ k j, j < l.length → (fillS l mark k)[j]? = if j < k then some (mkB mark) else l[j]?
  | 0, j, _ => by simp [fillS]
  | k + 1, j, h => by
    have ih := fillS_at l mark k j h
    simp only [fillS, List.getElem?_set]
    by_cases e : k = j
    · subst e
      simp [fillS_len, h]
    · rw [if_neg e, ih]
      by_cases h2 : j < k
      · rw [if_pos h2, if_pos (by omega)]
      · rw [if_neg h2, if_neg (by omega)]
theorem fillS_all (l : List Sb) (mark : Int) : fillS l mark l.length = mkS mark l.length := by
  apply List.ext_getElem?
  intro j
  by_cases h : j < l.length
  · rw [fillS_at l mark _ j h, if_pos h]; simp [mkS, h]
  · rw [List.getElem?_eq_none (by rw [fillS_len]; omega), List.getElem?_eq_none (by rw [mkS_len]; omega)]
theorem cellsS_set : ∀ (l : List Sb) (k : Nat) (e : Sb), k < l.length → (((cellsS l).set (k * 3) (.int .i64 e.n)).set (k * 3 + 1) (.int .i64 e.c)).set (k * 3 + 2) (.string e.v) = cellsS (l.set k e)
  | [], k, e, h => absurd h (by simp)
  | x :: r, 0, e, _ => by simp [cellsS]
  | x :: r, k + 1, e, h => by
    have := cellsS_set r k e (by simpa using h)
    rw [show (k + 1) * 3 = k * 3 + 1 + 1 + 1 by omega]
    simp [cellsS, this]
theorem own_stored3 {w : World} {B g n cap : Nat} {l : List Sb} (h : w.ownsRow B 57 3 (.slice (some ⟨g, 0, none⟩) n cap) n (cellsS l)) (k : Nat) (hk : k < l.length) (e : Sb) :
    (((w.setCell ⟨g, k * 3, none⟩ (.int .i64 e.n)).setCell ⟨g, k * 3 + 1, none⟩ (.int .i64 e.c)).setCell ⟨g, k * 3 + 2, none⟩ (.string e.v)).ownsRow B 57 3 (.slice (some ⟨g, 0, none⟩) n cap) n (cellsS (l.set k e)) := by
  have h2 := (((h.stored (k * 3) (.int .i64 e.n)).1.stored (k * 3 + 1) (.int .i64 e.c)).1.stored (k * 3 + 2) (.string e.v)).1
  rw [cellsS_set l k e hk] at h2
  exact h2
theorem grown_cell {w a : World} {r : Option Nat} {p : Addr} {u : Value} (h : w.grownBy a r) (hp : p.block < w.heap.size) (hr : some p.block ≠ r) (hu : w.cell? p = some u) : a.cell? p = some u :=
  (World.cell?_of_block (h.block p.block hp hr)).trans hu

set_option maxRecDepth 40000 in
set_option maxHeartbeats 1600000 in
theorem own_any (B : Nat) (vc v : Value) (J : List (Int × Int)) (L : List Sb) (mark : Int) (w : World) (hc : w.ownsRow B 52 2 vc J.length (cellsE J)) (hl : w.ownsRow B 57 3 v L.length (cellsS L)) (hJ : J.length ≤ 1000) (hL : L.length ≤ 1000) (hB : B ≤ w.heap.size) :
    Calls Try.prog 26 #[.agg #[vc, v], .int .i64 mark] w fun e w' => e = .returned (.tuple #[]) ∧ w'.ownsRow B 52 2 vc J.length (cellsE (mks mark J.length)) ∧ w'.ownsRow B 57 3 v L.length (cellsS (mkS mark L.length)) ∧ Only w w' vc.ownBlock v.ownBlock := by
  obtain ⟨i0, hi, hz0, hz1, hz2⟩ := info_parts Try.info57
  have hlt1 : ∀ q, vc.ownBlock = some q → q < w.heap.size := fun q hq => (hc.lt q hq).2
  have hlt2 : ∀ q, v.ownBlock = some q → q < w.heap.size := fun q hq => (hl.lt q hq).2
  have hap := own_apart hl hc (by decide)
  have hvl : ∃ a cap, v = .slice a L.length cap ∧ (0 < L.length → ∃ g, a = some ⟨g, 0, none⟩) := by
    rcases hl.2 with ⟨h1, h2⟩ | ⟨g, cap, cur, h1, _⟩
    · exact ⟨none, 0, by rw [h1, h2], fun h => by omega⟩
    · exact ⟨_, _, h1, fun _ => ⟨g, rfl⟩⟩
  obtain ⟨p1, q1, rfl⟩ := own_shape hc
  obtain ⟨a, cap, rfl, hg⟩ := hvl
  have hl1 : (L.length : Int) ≤ 1000 := by omega
  go_enter Try.func26, Try.ntmps26
  go_wp2_with fail
  refine (fill_any B _ J mark _ (hc.alloc _) hJ (by simp; omega)).mono ?_
  rintro e w1 ⟨rfl, hc1, hg1⟩
  have t1 : w1.cell? ⟨w.heap.size, 1, none⟩ = some (.slice a L.length cap) := grown_cell (p := ⟨w.heap.size, 1, none⟩) hg1 (by simp) (fun e => by have := hlt1 _ e.symm; simp at this) (by simp [go_sem])
  have hl2 : w1.ownsRow B 57 3 (.slice a L.length cap) L.length (cellsS L) := (hl.alloc _).kept hg1 hap
  have hsz1 : w.heap.size + 1 ≤ w1.heap.size := by have := hg1.size; simpa using this
  have HO1 : Hid (Only w w1 (Value.slice p1 J.length q1).ownBlock (Value.slice a L.length cap).ownBlock) := ⟨hg1.os, hg1.tape, hg1.output, by omega, fun k hk h1 h2 => (hg1.block k (by simp; omega) h1).trans (Below.heap_alloc w _ k hk)⟩
  have HC1 : Hid (w1.ownsRow B 52 2 (.slice p1 J.length q1) J.length (cellsE (mks mark J.length))) := hc1
  have HAP : Hid ((Value.slice p1 J.length q1).ownBlock = none ∨ (Value.slice p1 J.length q1).ownBlock ≠ (Value.slice a L.length cap).ownBlock) := own_apart hc hl (by decide)
  have HLT2 : Hid (∀ q, (Value.slice a L.length cap).ownBlock = some q → q < w.heap.size) := hlt2
  have HT1 : Hid (w1.cell? ⟨w.heap.size, 1, none⟩ = some (.slice a L.length cap)) := t1
  clear hg1 hc1 hc hlt1 hlt2 hap hl
  go_wp2_with fail
  clear t1
  go_loopw [4] (fun i wr => ∃ k : Nat, k ≤ L.length ∧ i = .int .i64 k ∧ wr.ownsRow B 57 3 (.slice a L.length cap) L.length (cellsS (fillS L mark k)) ∧ w1.grownBy wr (Value.slice a L.length cap).ownBlock)
    (fun i _ => L.length - (intOf i).toNat)
  case atStart => exact ⟨0, Nat.zero_le _, rfl, hl2, World.grownBy.refl _ _⟩
  case round =>
    obtain ⟨k, hk, rfl, ho, hgr⟩ := hrel
    have t1' : wr.cell? ⟨w.heap.size, 1, none⟩ = some (.slice a L.length cap) := grown_cell (p := ⟨w.heap.size, 1, none⟩) hgr (by show w.heap.size < _; omega) (fun e => by have := HLT2.out _ e.symm; simp at this) HT1.out
    by_cases hlt : k < L.length
    · obtain ⟨g, rfl⟩ := hg (by omega)
      have hk2 : k < (fillS L mark k).length := by rw [fillS_len]; exact hlt
      have c1 : wr.cell? ⟨g, k * 3, none⟩ = some (.int .i64 (sb (fillS L mark k) k).n) := by
        rw [ho.cellAt (k * 3) (by omega)]; exact (cellsS_at _ k hk2).1
      have c2 : wr.cell? ⟨g, k * 3 + 1, none⟩ = some (.int .i64 (sb (fillS L mark k) k).c) := by
        rw [ho.cellAt (k * 3 + 1) (by omega)]; exact (cellsS_at _ k hk2).2.1
      have c3 : wr.cell? ⟨g, k * 3 + 2, none⟩ = some (.string (sb (fillS L mark k) k).v) := by
        rw [ho.cellAt (k * 3 + 2) (by omega)]; exact (cellsS_at _ k hk2).2.2
      have f1 : wr.frozen? ⟨g, k * 3, none⟩ = false := ho.frozenAt _
      have f2 : wr.frozen? ⟨g, k * 3 + 1, none⟩ = false := ho.frozenAt _
      have f3 : wr.frozen? ⟨g, k * 3 + 2, none⟩ = false := ho.frozenAt _
      have HO := own_stored3 ho k hk2 (mkB mark)
      have HG := grown_set (grown_set (grown_set (p := ⟨g, k * 3, none⟩) hgr (.int .i64 mark)) (p := ⟨g, k * 3 + 1, none⟩) (.int .i64 0)) (p := ⟨g, k * 3 + 2, none⟩) (.string (ByteArray.mk #[]))
      clear hg hl2
      go_wp2
      go_roundw
      case rel => exact ⟨k + 1, by omega, by go_num, HO, HG⟩
      case measure => simp [intOf]; omega
    · obtain rfl : k = L.length := by omega
      rw [fillS_all] at ho
      have HW1 : Hid (w1.heap.size ≤ wr.heap.size) := hgr.size
      clear hl2 hg
      go_wp2_with fail
      go_loopw [5, 6] (fun v2 i wr => ∃ (k : Nat) (ys : List Value), k ≤ 3 ∧ i = .int .i64 k ∧ wr.ownsRow B 57 3 v2 (L.length + k) (cellsS (mkS mark L.length) ++ ys) ∧
          wr.ownsRow B 57 3 (.slice a L.length cap) L.length (cellsS (mkS mark L.length)) ∧ w1.grownBy wr (Value.slice a L.length cap).ownBlock ∧
          (v2.ownBlock = (Value.slice a L.length cap).ownBlock ∨ ∀ q, v2.ownBlock = some q → w1.heap.size ≤ q))
        (fun _ i _ => 3 - (intOf i).toNat)
      case atStart => exact ⟨0, [], by omega, rfl, by simpa using ho, ho, hgr, .inl rfl⟩
      case round =>
        obtain ⟨k, ys, hk, rfl, ho2, ho1, hgr2, hbl⟩ := hrel
        have hsz2 := hgr2.size
        by_cases hlt : k < 3
        · have HBL : Hid (u5.ownBlock = (Value.slice a L.length cap).ownBlock ∨ ∀ q, u5.ownBlock = some q → w1.heap.size ≤ q) := hbl
          clear hbl
          go_wp2_with (first
            | (at_builtin; refine wpList_append_keeps rfl _ _ 36 rfl B 57 i0 (.agg #[.int .i64 0, .int .i64 0, .string ByteArray.empty]) 3 32 Try.underlying36 hi hz0 hz1 hz2 rfl (by decide) _ _ _ rfl (ho2.alloc _) ⟨wr.heap.size, 0, none⟩ 1 1 [.int .i64 mark, .int .i64 0, .string (ByteArray.mk #[])] rfl rfl (by decide) ?c1 ?c2 ?c3 ?c4 ?c5 ?_))
          case c1 => exact cells_three_new _ _ _ _ _
          case c2 => intro u hu; simp at hu; rcases hu with rfl | rfl | rfl <;> rfl
          case c3 => omega
          case c4 => omega
          case c5 => simp; omega
          · intro v3 w2 h2 h3 h4 h5
            have hp := own_prefix (ho1.alloc _) (ho2.alloc _) h3 (by omega) h4
            have hgg := grown_trans (grown_alloc hgr2 _) h4 HBL.out
            have HB3 : Hid (v3.ownBlock = (Value.slice a L.length cap).ownBlock ∨ ∀ q, v3.ownBlock = some q → w1.heap.size ≤ q) := by
              rcases h5 with h5 | h5
              · rw [h5]; exact HBL.out
              · exact .inr fun q hq => Nat.le_trans hsz2 (Nat.le_trans (Nat.le_succ _) (h5 q hq))
            clear h3 h4 h5 HBL
            go_wp2
            go_roundw
            case rel => exact ⟨k + 1, ys ++ [.int .i64 mark, .int .i64 0, .string (ByteArray.mk #[])], by omega, by go_num, by rw [← List.append_assoc, ← Nat.add_assoc]; simpa using h2, hp, hgg, HB3.out⟩
            case measure => simp [intOf]; omega
        · go_wp2
          go_end0
          refine ⟨rfl, HC1.out.kept hgr2 HAP.out, ho1, HO1.out.os ▸ hgr2.os, HO1.out.tape ▸ hgr2.tape, HO1.out.output ▸ hgr2.output, Nat.le_trans HO1.out.size hgr2.size, fun q hq h1 h2 => (hgr2.block q (Nat.lt_of_lt_of_le hq HO1.out.size) h2).trans (HO1.out.block q hq h1 h2)⟩
end Go.Proofs.Ytkiipmdplpcfeaa
