/- The statements' small functions: sameTexts, marked, mark, pick. -/
import Derived.Test.YtilkdeghknjjhaaGreatDoorPart22
import Derived.Lib.Strings
import Derived.Test.YtilkdeghknjjhaaGreatDoorPart10
namespace Go.Proofs.YtilkdeghknjjhaaGreatDoor
open Go.RowKit
set_option linter.unusedVariables false

/-- A Boolean is handed back that says whether P holds. -/
def BoolIs (P : Prop) (w : World) (e : Ending) (w' : World) : Prop := ∃ r, e = .returned (.bool r) ∧ (r = true ↔ P) ∧ Below w.heap.size w w'
theorem bytes_eq {a b : ByteArray} (h : (a.toList == b.toList) = true) : a = b := by
  have h2 : a.data.toList = b.data.toList := by rw [← Lib.toList_data, ← Lib.toList_data]; exact beq_iff_eq.1 h
  obtain ⟨⟨x⟩⟩ := a
  obtain ⟨⟨y⟩⟩ := b
  simp at h2
  rw [h2]
theorem bytes_ne {a b : ByteArray} (h : (a.toList == b.toList) = false) : a ≠ b := fun e => by subst e; simp at h
def tx (l : List ByteArray) (i : Nat) : ByteArray := l.getD i ByteArray.empty
theorem tx_get (l : List ByteArray) (i : Nat) (h : i < l.length) : tx l i = l[i] := by simp [tx, List.getD, List.getElem?_eq_getElem h]
theorem cellsX_at (l : List ByteArray) (j : Nat) (h : j < l.length) : (cellsX l)[j]? = some (.string (tx l j)) := by
  rw [tx_get l j h]; simp [cellsX, h]
theorem ext_tx {l m : List ByteArray} (hl : l.length = m.length) (h : ∀ j, j < l.length → tx l j = tx m j) : l = m := by
  apply List.ext_getElem hl
  intro i h1 h2
  have := h i h1
  rwa [tx_get l i h1, tx_get m i h2] at this

set_option maxRecDepth 20000 in
set_option maxHeartbeats 800000 in
theorem sameTexts_any (B C : Nat) (v u : Value) (l m : List ByteArray) (w : World) (hv : OwnX w B v l) (hu : OwnX w C u m) (hl : l.length ≤ 1000000000) (hm : m.length ≤ 1000000000) :
    Calls Tryz.prog 106 #[v, u] w fun e w' => BoolIs (l = m) w e w' := by
  obtain ⟨a, cap, rfl, _, _, hA⟩ := own_cells hv
  obtain ⟨a', cap', rfl, _, _, hA'⟩ := own_cells hu
  have hl1 : (l.length : Int) ≤ 1000000000 := by omega
  have hm1 : (m.length : Int) ≤ 1000000000 := by omega
  by_cases hlen : l.length = m.length
  · have ht : ((l.length : Int) != (m.length : Int)) = false := by rw [hlen]; simp
    have HL : Hid (l.length = m.length) := hlen
    clear hlen hv hu
    go_enter Tryz.func106, Tryz.ntmps106
    go_wp2
    clear ht
    go_loopw [5] (fun i wr => ∃ k : Nat, k ≤ l.length ∧ i = .int .i64 k ∧ Hid (∀ j, j < k → tx l j = tx m j) ∧ Below w.heap.size w wr) (fun i _ => l.length - (intOf i).toNat)
    case atStart => exact ⟨0, Nat.zero_le _, rfl, fun j h => absurd h (Nat.not_lt_zero j), Below.refl _ _⟩
    case round =>
      obtain ⟨k, hk, rfl, he, hb⟩ := hrel
      by_cases hlt : k < l.length
      · have hlt' : k < m.length := by have := HL.out; omega
        obtain ⟨g, rfl, _, hr⟩ := hA (by omega)
        obtain ⟨g', rfl, _, hr'⟩ := hA' (by omega)
        have c1 := cell_later hb (hr _ _ (cellsX_at l k hlt))
        have c2 := cell_later hb (hr' _ _ (cellsX_at m k hlt'))
        have k0 : (0 : Int) ≤ (k : Int) := by omega
        have k1 : (k : Int) < (l.length : Int) := by omega
        have k2 : (k : Int) < (m.length : Int) := by omega
        clear hA hA' hr hr'
        obtain ⟨x, hx⟩ : ∃ x, tx l k = x := ⟨_, rfl⟩
        obtain ⟨y, hy⟩ : ∃ y, tx m k = y := ⟨_, rfl⟩
        have HX : Hid (tx l k = x ∧ tx m k = y) := ⟨hx, hy⟩
        rw [hx] at c1
        rw [hy] at c2
        clear hx hy
        by_cases heq : (x.toList == y.toList) = true
        · have HE : Hid (x = y) := bytes_eq heq
          go_wp2_with fail
          go_quiet (fail)
          go_wp2
          go_roundw
          case rel => exact ⟨k + 1, by omega, by go_num, fun j h => by
            by_cases e : j = k
            · subst e; rw [HX.out.1, HX.out.2]; exact HE.out
            · exact he j (by omega), below_drewN hb nq⟩
          case measure => simp [intOf]; omega
        · have heq' : (x.toList == y.toList) = false := by simpa using heq
          have HE : Hid (x ≠ y) := bytes_ne heq'
          clear heq
          go_wp2_with fail
          go_quiet (fail)
          go_wp2
          go_ret
          exact ⟨false, rfl, by simp; intro h; subst h; exact HE.out (HX.out.1.symm.trans HX.out.2), below_drewN hb nq⟩
      · have HE : Hid (l = m) := ext_tx HL.out (fun j h => he j (by omega))
        have k1 : ¬ (k : Int) < (l.length : Int) := by omega
        clear hA hA'
        go_wp2
        go_ret
        exact ⟨true, rfl, ⟨fun _ => HE.out, fun _ => rfl⟩, hb⟩
  · have ht : ((l.length : Int) != (m.length : Int)) = true := by simp; omega
    have HE : Hid (l ≠ m) := fun e => hlen (by rw [e])
    clear hlen hv hu hA hA'
    go_enter Tryz.func106, Tryz.ntmps106
    go_wp2
    go_ret
    exact ⟨false, rfl, by simp; exact HE.out, Below.refl _ _⟩

set_option maxRecDepth 20000 in
set_option maxHeartbeats 800000 in
theorem keepSameTexts_any (B C : Nat) (v u : Value) (l m : List ByteArray) (w : World) (hv : OwnX w B v l) (hu : OwnX w C u m) (hl : l.length ≤ 1000000000) (hm : m.length ≤ 1000000000) :
    Calls Tryz.prog 21 #[v, u] w fun e w' => BoolIs (l = m) w e w' := by
  obtain ⟨a, cap, rfl, _, _, hA⟩ := own_cells hv
  obtain ⟨a', cap', rfl, _, _, hA'⟩ := own_cells hu
  have hl1 : (l.length : Int) ≤ 1000000000 := by omega
  have hm1 : (m.length : Int) ≤ 1000000000 := by omega
  by_cases hlen : l.length = m.length
  · have ht : ((l.length : Int) != (m.length : Int)) = false := by rw [hlen]; simp
    have HL : Hid (l.length = m.length) := hlen
    clear hlen hv hu
    go_enter Tryz.func21, Tryz.ntmps21
    go_wp2
    clear ht
    go_loopw [5] (fun i wr => ∃ k : Nat, k ≤ l.length ∧ i = .int .i64 k ∧ Hid (∀ j, j < k → tx l j = tx m j) ∧ Below w.heap.size w wr) (fun i _ => l.length - (intOf i).toNat)
    case atStart => exact ⟨0, Nat.zero_le _, rfl, fun j h => absurd h (Nat.not_lt_zero j), Below.refl _ _⟩
    case round =>
      obtain ⟨k, hk, rfl, he, hb⟩ := hrel
      by_cases hlt : k < l.length
      · have hlt' : k < m.length := by have := HL.out; omega
        obtain ⟨g, rfl, _, hr⟩ := hA (by omega)
        obtain ⟨g', rfl, _, hr'⟩ := hA' (by omega)
        have c1 := cell_later hb (hr _ _ (cellsX_at l k hlt))
        have c2 := cell_later hb (hr' _ _ (cellsX_at m k hlt'))
        have k0 : (0 : Int) ≤ (k : Int) := by omega
        have k1 : (k : Int) < (l.length : Int) := by omega
        have k2 : (k : Int) < (m.length : Int) := by omega
        clear hA hA' hr hr'
        obtain ⟨x, hx⟩ : ∃ x, tx l k = x := ⟨_, rfl⟩
        obtain ⟨y, hy⟩ : ∃ y, tx m k = y := ⟨_, rfl⟩
        have HX : Hid (tx l k = x ∧ tx m k = y) := ⟨hx, hy⟩
        rw [hx] at c1
        rw [hy] at c2
        clear hx hy
        by_cases heq : (x.toList == y.toList) = true
        · have HE : Hid (x = y) := bytes_eq heq
          go_wp2_with fail
          go_quiet (fail)
          go_wp2
          go_roundw
          case rel => exact ⟨k + 1, by omega, by go_num, fun j h => by
            by_cases e : j = k
            · subst e; rw [HX.out.1, HX.out.2]; exact HE.out
            · exact he j (by omega), below_drewN hb nq⟩
          case measure => simp [intOf]; omega
        · have heq' : (x.toList == y.toList) = false := by simpa using heq
          have HE : Hid (x ≠ y) := bytes_ne heq'
          clear heq
          go_wp2_with fail
          go_quiet (fail)
          go_wp2
          go_ret
          exact ⟨false, rfl, by simp; intro h; subst h; exact HE.out (HX.out.1.symm.trans HX.out.2), below_drewN hb nq⟩
      · have HE : Hid (l = m) := ext_tx HL.out (fun j h => he j (by omega))
        have k1 : ¬ (k : Int) < (l.length : Int) := by omega
        clear hA hA'
        go_wp2
        go_ret
        exact ⟨true, rfl, ⟨fun _ => HE.out, fun _ => rfl⟩, hb⟩
  · have ht : ((l.length : Int) != (m.length : Int)) = true := by simp; omega
    have HE : Hid (l ≠ m) := fun e => hlen (by rw [e])
    clear hlen hv hu hA hA'
    go_enter Tryz.func21, Tryz.ntmps21
    go_wp2
    go_ret
    exact ⟨false, rfl, by simp; exact HE.out, Below.refl _ _⟩

/-- A slice whose texts are all one. -/
def AllX (w : World) (v : Value) (m : ByteArray) : Prop := ∃ a n cap, v = .slice a n cap ∧ n ≤ 1000000000 ∧ (0 < n → ∃ g cs, a = some ⟨g, 0, none⟩ ∧ w.heap[g]? = some (.cells cs 9 (0, 0)) ∧ ∀ j, j < n → cs[j]? = some (.string m))
theorem AllX.below {w w' : World} {v : Value} {m : ByteArray} (h : AllX w v m) (hb : Below w.heap.size w w') : AllX w' v m := by
  obtain ⟨a, n, cap, hv, hn, hc⟩ := h
  refine ⟨a, n, cap, hv, hn, fun h0 => ?_⟩
  obtain ⟨g, cs, ha, hg, hc⟩ := hc h0
  exact ⟨g, cs, ha, heap_later hb hg, hc⟩

set_option maxRecDepth 20000 in
set_option maxHeartbeats 800000 in
theorem marked_any (v : Value) (m : ByteArray) (w : World) (hv : AllX w v m) :
    Calls Tryz.prog 67 #[v, .string m] w fun e w' => e = .returned (.bool true) ∧ Below w.heap.size w w' := by
  obtain ⟨a, n, cap, rfl, hn, hA⟩ := hv
  have hn1 : (n : Int) ≤ 1000000000 := by omega
  go_enter Tryz.func67, Tryz.ntmps67
  go_wp2
  go_loopw [5] (fun i wr => ∃ k : Nat, k ≤ n ∧ i = .int .i64 k ∧ Below w.heap.size w wr) (fun i _ => n - (intOf i).toNat)
  case atStart => exact ⟨0, Nat.zero_le _, rfl, Below.refl _ _⟩
  case round =>
    obtain ⟨k, hk, rfl, hb⟩ := hrel
    by_cases hlt : k < n
    · obtain ⟨g, cs, rfl, hg, hr⟩ := hA (by omega)
      have c1 : wr.cell? ⟨g, k, none⟩ = some (.string m) := by rw [cell_of_row _ _ _ _ _ _ (heap_later hb hg)]; exact hr k hlt
      have k0 : (0 : Int) ≤ (k : Int) := by omega
      have k1 : (k : Int) < (n : Int) := by omega
      clear hA hr hg
      go_wp2
      go_roundw
      case rel => exact ⟨k + 1, by omega, by go_num, hb⟩
      case measure => simp [intOf]; omega
    · have k1 : ¬ (k : Int) < (n : Int) := by omega
      clear hA
      go_wp2
      go_ret
      exact ⟨rfl, hb⟩

/-- Which of n things a raw number speaks of. -/
def pickF (c n : Int) : Int := (if c < 0 then -(c + 1) else c) % n

theorem pick_any (c n : Int) (w : World) (h1 : -9223372036854775808 ≤ c) (h2 : c ≤ 9223372036854775807) (h3 : 1 ≤ n) (h4 : n ≤ 9223372036854775807) :
    Calls Tryz.prog 102 #[.int .i64 c, .int .i64 n] w fun e w' => e = .returned (.int .i64 (pickF c n)) ∧ w' = w := by
  by_cases hc : c < 0
  · have HP : Hid (pickF c n = (-(c + 1)) % n) := by show pickF c n = _; unfold pickF; rw [if_pos hc]
    have hq : 0 ≤ -(c + 1) := by omega
    go_enter Tryz.func102, Tryz.ntmps102
    go_wp2
    go_ret
    exact ⟨congrArg (fun q => Ending.returned (.int .i64 q)) (by rw [HP.out, ← Int.tmod_eq_emod_of_nonneg hq, Int.neg_tmod]), rfl⟩
  · have HP : Hid (pickF c n = c % n) := by show pickF c n = _; unfold pickF; rw [if_neg hc]
    have hq : 0 ≤ c := by omega
    go_enter Tryz.func102, Tryz.ntmps102
    go_wp2
    go_ret
    exact ⟨congrArg (fun q => Ending.returned (.int .i64 q)) (by rw [HP.out]), rfl⟩
end Go.Proofs.YtilkdeghknjjhaaGreatDoor
/- The statements' small functions: mark. -/
namespace Go.Proofs.YtilkdeghknjjhaaGreatDoor
open Go.RowKit M
set_option linter.unusedVariables false

/-- The letters of a mark. -/
def markG (fuel : Nat) (k : Int) (out : ByteArray) : ByteArray :=
  match fuel with
  | 0 => out
  | f + 1 => if 0 < k then markG f (k / 10) (out ++ strOfNums [97 + k % 10]) else out
theorem markG_more : ∀ (f g : Nat) (k : Int) (out : ByteArray), k ≤ f → k ≤ g → markG f k out = markG g k out
  | 0, 0, k, out, _, _ => rfl
  | 0, g + 1, k, out, h, _ => by simp only [markG]; rw [if_neg (by omega)]
  | f + 1, 0, k, out, _, h => by simp only [markG]; rw [if_neg (by omega)]
  | f + 1, g + 1, k, out, h1, h2 => by
    simp only [markG]
    by_cases hk : 0 < k
    · rw [if_pos hk, if_pos hk]
      exact markG_more f g _ _ (by omega) (by omega)
    · rw [if_neg hk, if_neg hk]
def markS : ByteArray := ⟨#[109, 97, 114, 107, 32]⟩
def markF (k : Int) : ByteArray := markG k.toNat k markS

set_option maxRecDepth 20000 in
set_option maxHeartbeats 400000 in
theorem mark_any (k : Int) (w : World) (h0 : 0 ≤ k) (h1 : k ≤ 1000000000) :
    Calls Tryz.prog 68 #[.int .i64 k] w fun e w' => e = .returned (.string (markF k)) ∧ Below w.heap.size w w' := by
  go_enter Tryz.func68, Tryz.ntmps68
  go_wp2
  go_loopw [0, 3] (fun d s wr => ∃ (q : Int) (t : ByteArray), d = .int .i64 q ∧ s = .string t ∧ 0 ≤ q ∧ q ≤ 1000000000 ∧ Hid ((t.size : Int) + q ≤ 5 + k) ∧ Hid (markG q.toNat q t = markF k) ∧ Below w.heap.size w wr)
    (fun d _ _ => (intOf d).toNat)
  case atStart => exact ⟨k, markS, rfl, rfl, h0, h1, by show (5 : Int) + k ≤ 5 + k; omega, rfl, Below.refl _ _⟩
  case round =>
    obtain ⟨q, t, rfl, rfl, q0, q1, hts, hm, hb⟩ := hrel
    have hsz := hb.size
    by_cases hlt : 0 < q
    · have m0 : 0 ≤ q % 10 := by omega
      have m1 : q % 10 < 10 := by omega
      have kc := fun (wx : World) (hx : Hid (wx.cell? ⟨wr.heap.size, 0, none⟩ = some (.int .u8 (97 + q % 10)))) => run_convert_bytes_arg (P := Tryz.prog) wx 126 5 Tryz.underlying126 Tryz.underlying5 wr.heap.size 0 1 1 [97 + q % 10] rfl (fun i hi => by
        obtain rfl : i = 0 := by omega
        exact hx.out) 9 Tryz.underlying9
      have kc1 := kc (wr.alloc (.cells #[.int .u8 (97 + q % 10)] 5)) (by show _ = _; simp [go_sem])
      clear kc
      obtain ⟨u, hu⟩ : ∃ u, strOfNums [97 + q % 10] = u := ⟨_, rfl⟩
      have us : u.size ≤ 1 := by rw [← hu, strOfNums_size]; simp
      have ts : t.size ≤ 1000000005 := by have := hts.out; omega
      have HM : Hid (markG (q / 10).toNat (q / 10) (t ++ u) = markF k) := by
        show _ = _
        rw [← hm.out]
        obtain ⟨f, hf⟩ : ∃ f, q.toNat = f + 1 := ⟨q.toNat - 1, by omega⟩
        rw [hf]
        simp only [markG]
        rw [if_pos hlt, hu]
        exact markG_more _ _ _ _ (by omega) (by omega)
      have HT : Hid (((t ++ u).size : Int) + q / 10 ≤ 5 + k) := by
        show (_ : Int) ≤ _
        rw [ByteArray.size_append]
        have := hts.out
        omega
      rw [hu] at kc1
      clear hu hm hts
      go_wp2
      go_roundw
      case rel => exact ⟨q / 10, t ++ u, rfl, rfl, by omega, by omega, HT, HM, hb.alloc hsz _⟩
      case measure => simp [intOf]; omega
    · have HM : Hid (t = markF k) := by
        show _ = _
        rw [← hm.out]
        have : q.toNat = 0 := by omega
        rw [this]; rfl
      clear hm
      go_wp2
      go_ret
      exact ⟨by rw [← HM.out]; rfl, hb⟩
end Go.Proofs.YtilkdeghknjjhaaGreatDoor
