/- The contract of join: the counts by nodes, and the entries made of them. -/
import Derived.Test.YtkiipmdplpcfeaaG
import Derived.WalkKit
import Derived.WalkSpells
import Derived.WalkLawsBesides
import Derived.Deep.QuietTactic
import Derived.BigQuiet
import Derived.BigRegion
namespace Go.Proofs.Ytkiipmdplpcfeaa
open Go.RowKit M
set_option linter.unusedVariables false

/-- The counts by nodes behind the first k entries of a list, F being those ahead of it. -/
def ap (F : Nat → Int) (l : List (Int × Int)) : Nat → Nat → Int
  | 0 => F
  | k + 1 => fun n => if (ent l k).1 = (n : Int) then (if ap F l k n < (ent l k).2 then (ent l k).2 else ap F l k n) else ap F l k n
/-- Behind the first j of some lists. -/
def apAll (ls : List (List (Int × Int))) : Nat → Nat → Int
  | 0 => fun _ => 0
  | j + 1 => ap (apAll ls j) (ls.getD j []) (ls.getD j []).length
/-- The entries of some counts. -/
def entsTo (F : Nat → Int) : Nat → List (Int × Int)
  | 0 => []
  | k + 1 => if 0 < F k then entsTo F k ++ [((k : Int), F k)] else entsTo F k
/-- The cells of an array of counts. -/
def arr (F : Nat → Int) : Array Value := ((List.range 16).map fun n => Value.int .i64 (F n)).toArray

theorem arr_size (F : Nat → Int) : (arr F).size = 16 := by simp [arr]
theorem arr_at (F : Nat → Int) (n : Nat) (h : n < 16) : (arr F)[n]? = some (.int .i64 (F n)) := by
  simp [arr, h]
theorem Try.info3 : (Try.prog.info? 3).map (fun i => (i.zero, i.size, i.bytes)) = some (some (.int .i64 0), 1, 8) := by kernel_rfl
theorem index_arr (F : Nat → Int) (k : Nat) (h : k < 16) (w : World) : (Instr.index 61 (.agg (arr F)) (.int .i64 (k : Int))).run Try.prog w = .ok (.int .i64 (F k)) w := by
  obtain ⟨i, hi, hz0, hz1, hz2⟩ := info_parts Try.info3
  have h2 : ¬ 16 ≤ k := by omega
  simp [Instr.index, asIntOf, run_underlying Try.underlying61, part, isAgg, run_underlying Try.underlying3, sizeOf, typeInfo, hi, hz1, arr_at F k h]
  intro h3
  exact absurd h3 h2
theorem arr_set (F G : Nat → Int) (k : Nat) (x : Int) (hG : ∀ n, G n = if n = k then x else F n) : (arr F).setIfInBounds k (.int .i64 x) = arr G := by
  apply Array.ext (by simp [arr])
  intro i h1 h2
  have h3 : i < 16 := by simpa [arr] using h2
  have h4 : i < (arr F).size := by rw [arr_size]; exact h3
  rw [Array.getElem_setIfInBounds h4]
  split
  · subst_vars; simp [arr, hG]
  · rename_i hne; simp [arr, hG, show ¬ i = k from fun e => hne e.symm]
theorem entsTo_len (F : Nat → Int) : ∀ k, (entsTo F k).length ≤ k
  | 0 => Nat.le_refl _
  | k + 1 => by have := entsTo_len F k; unfold entsTo; split <;> simp <;> omega
theorem info61 : (Try.prog.info? 61).map (·.size) = some 16 := by kernel_rfl

set_option maxRecDepth 20000 in
set_option maxHeartbeats 400000 in
theorem join_any (g n : Nat) (ls : List (List (Int × Int))) (w : World) (hn : ls.length = n) (hn8 : n ≤ 8)
    (hls : ∀ j, j < n → ∃ v, w.cell? ⟨g, j, none⟩ = some v ∧ Rd w v (ls.getD j []) ∧ Up (ls.getD j []) (ls.getD j []).length) :
    Calls Try.prog 36 #[.slice (some ⟨g, 0, none⟩) n n] w fun e w' => Below w.heap.size w w' ∧
      ((8 < (entsTo (apAll ls n) 16).length ∧ e = .returned (.tuple #[.slice none 0 0, .int .i64 5])) ∨
       ((entsTo (apAll ls n) 16).length ≤ 8 ∧ ∃ v, e = .returned (.tuple #[v, .int .i64 0]) ∧ w'.ownsRow w.heap.size 52 2 v (entsTo (apAll ls n) 16).length (cellsE (entsTo (apAll ls n) 16)))) := by
  obtain ⟨i0, hi, hz0, hz1, hz2⟩ := info_parts Try.info52
  go_enter Try.func36, Try.ntmps36
  have hg : ∀ j, j < n → g < w.heap.size := fun j hj => by obtain ⟨v, hv, _⟩ := hls j hj; exact World.block_lt_of_cell? w _ hv
  go_wp2_with fail
  go_loopw [6, 14] (fun _ i wr => ∃ j : Nat, j ≤ n ∧ i = .int .i64 j ∧ wr.heap[w.heap.size]? = some (.cells (arr (apAll ls j)) 61 (0, 0)) ∧ Below w.heap.size w wr)
    (fun _ i _ => n - (intOf i).toNat)
  case atStart => exact ⟨0, Nat.zero_le _, rfl, heap_alloc_new _ _, (Below.refl _ _).alloc (Nat.le_refl _) _⟩
  case round =>
    obtain ⟨j, hj, rfl, hcb, hb⟩ := hrel
    have hsz := hb.size
    by_cases hlt : j < n
    · obtain ⟨v, hv, hrd, hup⟩ := hls j hlt
      have cv : wr.cell? ⟨g, j, none⟩ = some v := cell_later hb hv
      obtain ⟨a, cap, rfl, hlc, hc, hA⟩ := hrd
      have HS : Hid (apAll ls (j + 1) = ap (apAll ls j) (ls.getD j []) (ls.getD j []).length) := rfl
      generalize ls.getD j [] = l at *
      generalize apAll ls j = F at *
      clear hls hv
      go_wp2_with fail
      obtain ⟨wo, rfl⟩ : ∃ wo : World, wo = wr := ⟨_, rfl⟩
      go_loopw [8, 20] (fun _ i wr => ∃ k : Nat, k ≤ l.length ∧ i = .int .i64 k ∧ wr.heap[w.heap.size]? = some (.cells (arr (ap F l k)) 61 (0, 0)) ∧ Below w.heap.size w wr)
        (fun _ i _ => l.length - (intOf i).toNat)
      case atStart => exact ⟨0, Nat.zero_le _, rfl, hcb, hb⟩
      case round =>
        obtain ⟨k, hk, rfl, hcb2, hb2⟩ := hrel
        have hsz2 := hb2.size
        have hlt2 : w.heap.size < wr.heap.size := (Array.getElem?_eq_some_iff.1 hcb2).1
        by_cases hkl : k < l.length
        · obtain ⟨b, off, rfl, hr⟩ := hA (by omega)
          have hd := (hup k hkl).1
          obtain ⟨nd, hnd⟩ : ∃ nd : Nat, (ent l k).1 = nd := ⟨(ent l k).1.toNat, by have := hd.1; omega⟩
          have hnd16 : nd < 16 := by have := hd.2.1; omega
          have c1 : wr.cell? ⟨b, off + k * 2, none⟩ = some (.int .i64 (nd : Int)) := by
            have := cell_later hb2 (hr k hkl).1
            rw [hnd] at this; exact this
          have c2 : wr.cell? ⟨b, off + k * 2 + 1, none⟩ = some (.int .i64 (ent l k).2) := cell_later hb2 (hr k hkl).2
          have ca : ∀ o, (wr.alloc o).cell? ⟨w.heap.size, nd, none⟩ = some (.int .i64 (ap F l k nd)) := fun o => by
            rw [cell_of_row _ _ _ _ _ _ ((Below.heap_alloc wr o _ hlt2).trans hcb2)]; exact arr_at _ _ hnd16
          have cf : ∀ o, (wr.alloc o).frozen? ⟨w.heap.size, nd, none⟩ = false := fun o => frozen_of_row _ _ _ _ _ ((Below.heap_alloc wr o _ hlt2).trans hcb2)
          have HN : Hid ((ent l k).1 = nd) := hnd
          clear hA hr hnd hcb hb
          go_wp2_with fail
          go_region
          go_wp2
          go_roundw
          case rel =>
            refine ⟨k + 1, by omega, by go_num, ?_, ?_⟩
            · show ((wr.setCell _ _).alloc _).heap[w.heap.size]? = _
              rw [Below.heap_alloc _ _ _ (by simpa [World.setCell] using hlt2), heap_setCell_same _ _ _ _ _ _ hcb2]
              congr 2
              refine arr_set _ _ _ _ (fun n => ?_)
              have hN := HN.out
              show (if (ent l k).1 = (n : Int) then _ else _) = _
              rw [hN]
              by_cases e : n = nd
              · subst e; simp
              · rw [if_neg (by omega), if_neg e]
            · exact ((hb2.setCell (by simp) _).alloc (by simpa [World.setCell] using hsz2) _).drew
          case measure => simp [intOf]; omega
        · obtain rfl : k = l.length := by omega
          clear hA cv hg
          go_wp2_with fail
          go_roundw
          case rel => exact ⟨j + 1, by omega, by go_num, by rw [HS.out]; exact hcb2, hb2⟩
          case measure => simp [intOf]; omega
    · obtain rfl : j = n := by omega
      obtain ⟨F, hF⟩ : ∃ F, apAll ls j = F := ⟨_, rfl⟩
      rw [hF] at hcb
      have HF : Hid (apAll ls j = F) := hF
      clear hls hF
      go_wp2_with (first | refine wpList_load_row rfl 61 _ rfl w.heap.size rfl 61 (arr F) (0, 0) _ hcb Try.underlying61 rfl (by rw [arr_size]; exact info61) ?_)
      clear hcb
      go_loopw [9, 10, 11, 37] (fun v _ _ i wr => ∃ k : Nat, k ≤ 16 ∧ i = .int .i64 k ∧ wr.ownsRow w.heap.size 52 2 v (entsTo F k).length (cellsE (entsTo F k)) ∧ Below w.heap.size w wr)
        (fun _ _ _ i _ => 16 - (intOf i).toNat)
      case atStart => exact ⟨0, Nat.zero_le _, rfl, World.ownsRow_nil _ _ _ _, hb⟩
      case round =>
        obtain ⟨k, hk, rfl, ho, hb2⟩ := hrel
        have hsz2 := hb2.size
        have hel := entsTo_len F k
        by_cases hlt : k < 16
        · have hidx := fun w => index_arr F k hlt w
          by_cases hF : 0 < F k
          · have HE : Hid (entsTo F (k + 1) = entsTo F k ++ [((k : Int), F k)]) := by show _ = _; simp [entsTo, hF]
            go_wp2_with (first
              | (at_builtin; refine wpList_append_own _ rfl _ _ 22 rfl w.heap.size 52 i0 (.agg #[.int .i64 0, .int .i64 0]) 2 16 Try.underlying22 hi hz0 hz1 hz2 rfl (by decide) _ _ _ rfl (ho.alloc _) ⟨wr.heap.size, 0, none⟩ 1 1 [.int .i64 (k : Int), .int .i64 (F k)] rfl rfl ?c1 ?c2 ?c3 ?c4 ?c5 ?_))
            case c1 => exact cell_two_new _ _ _ _
            case c2 => intro u hu; simp at hu; rcases hu with rfl | rfl <;> rfl
            case c3 => unfold maxLen; omega
            case c4 => omega
            case c5 => simp; omega
            · intro v' w2 hown' hgrow _
              have hb3 : Below w.heap.size w w2 := (hb2.alloc (by omega) _).grown hgrow (by simp; omega) (fun q hq => (ho.lt q hq).1)
              go_wp2
              go_roundw
              case rel => exact ⟨k + 1, by omega, by go_num, by rw [HE.out, List.length_append, cellsE_snoc]; exact hown', hb3⟩
              case measure => simp [intOf]; omega
          · have HE : Hid (entsTo F (k + 1) = entsTo F k) := by show _ = _; simp [entsTo, hF]
            go_wp2
            go_roundw
            case rel => exact ⟨k + 1, by omega, by go_num, by rw [HE.out]; exact ho, hb2⟩
            case measure => simp [intOf]; omega
        · obtain rfl : k = 16 := by omega
          have hvl : ∃ a cap, u9 = .slice a (entsTo F 16).length cap := by
            rcases ho.2 with ⟨h1, h2⟩ | ⟨g, cap, cur, h1, _⟩
            · exact ⟨none, 0, by rw [h1, h2]⟩
            · exact ⟨_, _, h1⟩
          obtain ⟨a9, cap9, rfl⟩ := hvl
          by_cases h8 : 8 < (entsTo F 16).length
          · go_wp2
            go_ret2
            rw [HF.out]
            exact ⟨hb2, .inl ⟨h8, rfl⟩⟩
          · go_wp2
            go_ret2
            rw [HF.out]
            exact ⟨hb2, .inr ⟨by omega, _, rfl, ho⟩⟩
end Go.Proofs.Ytkiipmdplpcfeaa
