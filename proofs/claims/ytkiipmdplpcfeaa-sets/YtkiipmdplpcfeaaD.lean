/- The contract of Encode: the clock's text, or ErrArg. -/
import Derived.Test.YtkiipmdplpcfeaaC
import Derived.WalkKit
import Derived.WalkSpells
import Derived.WalkLawsBesides
import Derived.Deep.QuietTactic
import Derived.BigQuiet
namespace Go.Proofs.Ytkiipmdplpcfeaa
open Go.RowKit M
set_option linter.unusedVariables false

theorem conv_own {w : World} {B n : Nat} {v : Value} {l : List Int} (h : w.ownsRow B 5 1 v n (u8s l)) :
    (convert 67 9 v).run Try.prog w = .ok (.string (strOfNums l)) w := by
  have hn : l.length = n := by have := h.1; simpa [u8s] using this
  rcases h.2 with ⟨rfl, rfl⟩ | ⟨g, cap, cur, rfl, _, hh, hle, hm, hsz, htk⟩
  · have : l = [] := List.eq_nil_of_length_eq_zero hn
    subst this
    exact run_convert_bytes_nil w 67 5 Try.underlying67 Try.underlying5 0 0 9 Try.underlying9
  · refine run_convert_bytes_arg w 67 5 Try.underlying67 Try.underlying5 g 0 n cap l hn (fun i hi => ?_) 9 Try.underlying9
    rw [cell_of_row w g (0 + i) cur 5 (0, 0) hh]
    have : (u8s l)[i]? = some (.int .u8 (l.getD i 0)) := by
      simp [u8s, List.getD, List.getElem?_eq_getElem (show i < l.length by omega)]
    rw [← htk, List.getElem?_take, if_pos (by omega)] at this
    simpa using this

set_option maxHeartbeats 400000 in
theorem Encode_no (v : Value) (l : List (Int × Int)) (w : World) (hrd : Rd w v l) (hk : ¬ Clk l) :
    Calls Try.prog 16 #[v] w fun e w' => e = .returned (.tuple #[.string ByteArray.empty, .int .i64 1]) ∧ Below w.heap.size w w' := by
  go_enter Try.func16, Try.ntmps16
  go_wp2_with fail
  refine (isClock_any v l _ hrd).mono ?_
  rintro e w1 ⟨r, rfl, hr, hb⟩
  obtain rfl : r = false := by cases r; rfl; exact absurd (hr.1 rfl) hk
  clear hr
  go_wp2
  go_ret2
  exact ⟨rfl, hb⟩

set_option maxHeartbeats 400000 in
theorem Encode_yes (v : Value) (l : List (Int × Int)) (w : World) (hrd : Rd w v l) (hk : Clk l) :
    Calls Try.prog 16 #[v] w fun e w' => e = .returned (.tuple #[.string (strOfNums (encL l)), .int .i64 0]) ∧ Below w.heap.size w w' := by
  obtain ⟨i0, hi, hz0, hz1, hz2⟩ := info_parts Try.info5
  go_enter Try.func16, Try.ntmps16
  go_wp2_with fail
  refine (isClock_any v l _ hrd).mono ?_
  rintro e w1 ⟨r, rfl, hr, hb⟩
  obtain rfl : r = true := hr.2 hk
  clear hr
  have hrd1 := hrd.below hb
  clear hrd
  obtain ⟨a, cap, rfl, hlc, hc, hA⟩ := hrd1
  have hl8 : l.length ≤ 8 := hk.1
  have hsz := hb.size
  go_wp2_with fail
  go_loopw [4, 6, 16] (fun v _ i wr => ∃ k : Nat, k ≤ l.length ∧ i = .int .i64 k ∧ wr.ownsRow w1.heap.size 5 1 v (1 + 9 * k) (u8s (encTo l k)) ∧ Below w1.heap.size w1 wr)
    (fun _ _ i _ => l.length - (intOf i).toNat)
  case atStart => 
    refine ⟨0, Nat.zero_le _, rfl, ?_, ?_⟩
    · exact World.ownsRow_lit w1 #[.int .u8 (l.length : Int)] 1 (Nat.le_refl _) (by decide) rfl
    · exact (Below.refl _ _).alloc (Nat.le_refl _) _
  case round =>
    obtain ⟨k, hkl, rfl, ho, hb2⟩ := hrel
    have hsz2 := hb2.size
    by_cases hlt : k < l.length
    · obtain ⟨b, off, rfl, hr⟩ := hA (by omega)
      have hbb : b < w1.heap.size := World.block_lt_of_cell? w1 ⟨b, off + k * 2, none⟩ (hr k hlt).1
      clear hA
      have c1 : wr.cell? ⟨b, off + k * 2, none⟩ = some (.int .i64 (ent l k).1) := (hb2.cell (p := ⟨b, off + k * 2, none⟩) hbb).trans (hr k hlt).1
      have c2 : wr.cell? ⟨b, off + k * 2 + 1, none⟩ = some (.int .i64 (ent l k).2) := (hb2.cell (p := ⟨b, off + k * 2 + 1, none⟩) hbb).trans (hr k hlt).2
      have hd := (hk.2 k hlt).1
      have d1 : 0 ≤ (ent l k).1 := hd.1
      have d2 : (ent l k).1 ≤ 15 := hd.2.1
      have d3 : 1 ≤ (ent l k).2 := hd.2.2.1
      have d4 : (ent l k).2 ≤ 4611686018427387904 := hd.2.2.2
      have HS : Hid (encTo l (k + 1) = encTo l k ++ ((ent l k).1 :: be8 (ent l k).2)) := rfl
      clear hr hk
      go_wp2_with (first
        | (at_builtin; refine wpList_append_own _ rfl _ _ 67 rfl w1.heap.size 5 i0 (.int .u8 0) 1 1 Try.underlying67 hi hz0 hz1 hz2 rfl (by decide) _ _ _ rfl ((ho.alloc _).alloc _) ⟨wr.heap.size + 1, 0, none⟩ 1 1 [.int .u8 (ent l k).1] rfl rfl ?c1 ?c2 ?c3 ?c4 ?c5 ?_))
      case c1 => intro j u hj; match j, hj with
        | 0, hj => simp at hj; subst hj; simp [go_sem, Addr.add]
        | j + 1, hj => simp at hj
      case c2 => intro u hu; simp at hu; subst hu; rfl
      case c3 => unfold maxLen; omega
      case c4 => omega
      case c5 => simp; omega
      · intro v' w2 hown' hgrow _
        have hb3 : Below w1.heap.size w1 w2 := ((hb2.alloc (by omega) _).alloc (by simp; omega) _).grown hgrow (by simp; omega) (fun q hq => (ho.lt q hq).1)
        have hs3 := hb3.size
        have e1 : w2.cell? ⟨wr.heap.size, 1, none⟩ = some (.int .i64 (ent l k).2) := hgrow.cell (by simp [go_sem]) (fun h => by have := (ho.lt _ h.symm).2; simp at this)
        go_wp2_with fail
        refine (appendCount_any w1.heap.size v' _ _ (ent l k).2 w2 (by omega) hown' (by omega) (by omega) d4).mono ?_
        rintro e w3 ⟨v3, rfl, hown3, hb4⟩
        have hb5 := hb3.trans hb4
        have hs5 := hb5.size
        go_wp2
        go_roundw
        case rel => exact ⟨k + 1, by omega, by go_num, by rw [HS.out]; simpa [u8s, Nat.mul_add, Nat.add_assoc] using hown3, hb5⟩
        case measure => simp [intOf]; omega
    · have hkk : k = l.length := by omega
      subst hkk
      have hconv := conv_own ho
      go_wp2
      go_ret2
      exact ⟨rfl, hb.trans (hb2.mono hsz)⟩
end Go.Proofs.Ytkiipmdplpcfeaa
