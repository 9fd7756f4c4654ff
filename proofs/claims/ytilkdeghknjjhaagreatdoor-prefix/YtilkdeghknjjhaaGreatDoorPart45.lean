/- The journal: numbers. -/
import Derived.Test.YtilkdeghknjjhaaGreatDoorPart33
import Derived.Test.YtilkdeghknjjhaaGreatDoorPart32
import Derived.Test.YtilkdeghknjjhaaGreatDoorPart44
import Derived.Lib.OwnBridge
import Derived.Shelf.Slices.In.SortNone
namespace Go.Proofs.YtilkdeghknjjhaaGreatDoor
open Go.RowKit M
set_option linter.unusedVariables false

theorem infoI : (Tryz.prog.info? 3).map (fun i => (i.zero, i.size, i.bytes)) = some (some (.int .i64 0), 1, 8) := by kernel_rfl
theorem cut_fnm (i : Nat) : Lib.trimPrefix (fnm i).data.toList ((⟨#[100, 97, 116, 97, 46]⟩ : ByteArray)).data.toList = Lib.itoa i ∧ Lib.hasPrefix (fnm i).data.toList ((⟨#[100, 97, 116, 97, 46]⟩ : ByteArray)).data.toList = true := by
  have e : (fnm i).data.toList = [100, 97, 116, 97, 46] ++ Lib.itoa i := by
    have := bs_app (⟨#[100, 97, 116, 97, 46]⟩ : ByteArray) (ba (Lib.itoa i))
    rw [bs_ba] at this
    exact this
  have hp : Lib.hasPrefix (fnm i).data.toList ((⟨#[100, 97, 116, 97, 46]⟩ : ByteArray)).data.toList = true := by
    rw [e]; unfold Lib.hasPrefix; simp
  refine ⟨?_, hp⟩
  unfold Lib.trimPrefix
  rw [if_pos hp, e]
  simp
/-- The numbers of some files, in their order. -/
def numsI (is : List Nat) : List Int := is.map Int.ofNat
theorem numsI_snoc (is : List Nat) (k : Nat) (h : k < is.length) : numsI (is.take (k + 1)) = numsI (is.take k) ++ [(is[k] : Int)] := by
  unfold numsI
  rw [List.take_succ_eq_append_getElem h, List.map_append]; rfl
theorem cellsI_snoc (l : List Int) (x : Int) : cellsI (l ++ [x]) = cellsI l ++ [.int .i64 x] := by simp [cellsI]

set_option maxRecDepth 20000 in
set_option maxHeartbeats 1600000 in
theorem numbers_any (is : List Nat) (v : Value) (w : World) (h : w.ownsRow 0 9 1 v is.length (cellsX (is.map fnm))) (hl : is.length ≤ 1000000000) (hi : ∀ i ∈ is, 1 ≤ i ∧ i < 1000000000) (hv : Vars w) :
    Calls Tryz.prog 146 #[v] w fun e w' => ∃ v', e = .returned v' ∧ w'.ownsRow w.heap.size 3 1 v' is.length (cellsI ((numsI is).mergeSort fun x y => decide (x ≤ y))) ∧ Below w.heap.size w w' := by
  obtain ⟨i0, hinf, hz0, hz1, hz2⟩ := info_parts infoI
  obtain ⟨a, cap, rfl, hlc, hc, hA⟩ := own_cells h
  have hl1 : (is.length : Int) ≤ 1000000000 := by omega
  have HV : Hid (∀ X, Below w.heap.size w X → Vars X) := fun X hX => hv.below hX
  have HN : Hid (∀ k (hk : k < is.length), ∃ g, a = some ⟨g, 0, none⟩ ∧ w.cell? ⟨g, k, none⟩ = some (.string (fnm is[k])) ∧ 1 ≤ is[k] ∧ is[k] < 1000000000) := fun k hk => by
    obtain ⟨g, rfl, _, hcell⟩ := hA (by omega)
    refine ⟨g, rfl, hcell k _ ?_, hi _ (List.getElem_mem hk)⟩
    unfold cellsX
    simp [hk]
  clear h hA hlc hc hi hv
  go_enter Tryz.func146, Tryz.ntmps146
  go_wp2_with fail
  go_loopw [3, 12] (fun u i wr => ∃ k : Nat, k ≤ is.length ∧ i = .int .i64 k ∧ wr.ownsRow w.heap.size 3 1 u k (cellsI (numsI (is.take k))) ∧ Below w.heap.size w wr) (fun _ i _ => is.length - (intOf i).toNat)
  case atStart => exact ⟨0, Nat.zero_le _, rfl, World.ownsRow_nil _ _ _ _, Below.refl _ _⟩
  case round =>
    obtain ⟨k, hk, rfl, ho, hb⟩ := hrel
    obtain ⟨a3, cap3, hu3⟩ := own_shape ho
    subst hu3
    by_cases hlt : k < is.length
    · have q1 : (k : Int) < (is.length : Int) := by omega
      have q0 : (0 : Int) ≤ (k : Int) := by omega
      obtain ⟨g, rfl, hcell, i1, i2⟩ := HN.out k hlt
      have HS : Hid (numsI (is.take (k + 1)) = numsI (is.take k) ++ [(is[k] : Int)]) := numsI_snoc is k hlt
      obtain ⟨i, hie⟩ : ∃ i, is[k] = i := ⟨_, rfl⟩
      rw [hie] at hcell i1 i2 HS
      have e0 := cell_later hb hcell
      have hCut := Tryz.strings_CutPrefix (fnm i) (⟨#[100, 97, 116, 97, 46]⟩ : ByteArray) wr
      rw [(cut_fnm i).1, (cut_fnm i).2] at hCut
      have hAt := Atoi_any (ba (Lib.itoa i)) wr (by have := itoa_size (n := i) (by omega); omega) (HV.out wr hb)
      rw [bs_ba, show atoiV (Lib.itoa i) = (i : Int) by unfold atoiV; rw [atoi_itoa i (by omega)], show atoiOK (Lib.itoa i) = true by unfold atoiOK; rw [atoi_itoa i (by omega)]] at hAt
      replace hAt : Calls Tryz.prog 197 #[.string (ba (Lib.itoa i))] wr fun e w' => e = .returned (.tuple #[.int .i64 i, .nilIface]) ∧ Below wr.heap.size wr w' := hAt.mono fun e w' ⟨er, he, hb', hr⟩ => by
        have : er = .nilIface := by simpa using hr
        exact ⟨by rw [he, this], hb'⟩
      have HFn : Hid (∀ X, Below w.heap.size w X → Calls Tryz.prog 125 #[.int .i64 i] X fun e w' => e = .returned (.string (fnm i)) ∧ Below X.heap.size X w') := fun X hX => fileName_any i X (by omega) (HV.out X hX)
      have j0 : (0 : Int) < (i : Int) := by omega
      obtain ⟨nmv, hnm⟩ : ∃ x, fnm i = x := ⟨_, rfl⟩
      obtain ⟨nt, hnt⟩ : ∃ x, ba (Lib.itoa i) = x := ⟨_, rfl⟩
      rw [hnm] at e0 hCut HFn
      rw [hnt] at hAt
      replace hCut : Calls Tryz.prog 196 #[.string nmv, .string (⟨#[100, 97, 116, 97, 46]⟩ : ByteArray)] wr fun e w' => e = .returned (.tuple #[.string nt, .bool true]) ∧ w' = wr := by
        have e1 : (⟨(Lib.itoa i).toArray⟩ : ByteArray) = nt := hnt
        rw [e1] at hCut
        exact hCut
      clear hcell hie hnm hnt
      clear HN HV
      go_wp2_with fail
      refine hCut.mono ?_
      rintro e w1 ⟨rfl, rfl⟩
      go_wp2_with fail
      refine hAt.mono ?_
      rintro e w2 ⟨rfl, hb2⟩
      have hb3 : Below w.heap.size w w2 := belowN hb hb2
      have hb23 : Below w1.heap.size w1 w2 := hb2
      go_wp2_with fail
      refine (HFn.out w2 hb3).mono ?_
      rintro e w3 ⟨rfl, hb4⟩
      have ho3 := own_below ho (belowN hb23 hb4)
      have hb5 : Below w.heap.size w w3 := belowN hb3 hb4
      have hs5 := hb5.size
      have hlen2 : (cellsI (numsI (is.take k))).length = k := by rw [cellsI_len]; unfold numsI; simp; omega
      clear hb hb2 hb3 hb23 hb4 ho hCut hAt HFn e0
      go_wp2_with (first
        | (at_builtin; refine wpList_append_own _ rfl _ _ 42 rfl w.heap.size 3 i0 (.int .i64 0) 1 8 Tryz.underlying42 hinf hz0 hz1 hz2 rfl (by decide) _ _ _ rfl (ho3.alloc _) ⟨w3.heap.size, 0, none⟩ 1 1 [.int .i64 i] rfl rfl (cells_one_new _ _ _) (by simp; rfl) (by unfold maxLen; omega) (by omega) (by simp; omega) ?_))
      intro v' w4 hown' hgrow _
      have hb6 : Below w.heap.size w w4 := (hb5.alloc (by omega) _).grown hgrow (by simp; omega) (fun q hq => (ho3.lt q hq).1)
      go_wp2
      go_roundw
      case rel => exact ⟨k + 1, by omega, by go_num, by rw [HS.out, cellsI_snoc]; exact hown', hb6⟩
      case measure => simp [intOf]; omega
    · have q1 : ¬ (k : Int) < (is.length : Int) := by omega
      have hke : k = is.length := by omega
      subst hke
      rw [List.take_length] at ho
      have hmap : cellsI (numsI is) = (numsI is).map (Value.int .i64) := rfl
      have hSort : Calls Tryz.prog 198 #[.slice a3 is.length cap3] wr fun e w' => e = .returned (.tuple #[]) ∧ w'.ownsRow w.heap.size 3 1 (.slice a3 is.length cap3) is.length (cellsI ((numsI is).mergeSort fun x y => decide (x ≤ y))) ∧ Below w.heap.size w w' := by
        by_cases h0 : is = []
        · subst h0
          refine (Any.slices_Sort_int_none Tryz.lays189 a3 cap3 wr).mono ?_
          rintro e w' ⟨rfl, rfl⟩
          exact ⟨rfl, by rw [show ((numsI []).mergeSort fun x y => decide (x ≤ y)) = numsI [] by simp [numsI]]; exact ho, hb⟩
        · have hne : (.slice a3 is.length cap3 : Value) ≠ .slice none 0 0 := fun e => by
            injection e with _ e2 _
            exact h0 (List.length_eq_zero_iff.1 e2)
          rw [hmap] at ho
          obtain ⟨g, cap, he, hg1, hg2, hg3, hg4, hg5, hH⟩ := Lib.holds_of_ownsRow ho hne
          injection he with he1 he2 he3
          subst he1
          subst he3
          have := Tryz.slices_Sort_int g 0 cap3 (numsI is) wr hH hg2 (by rw [hg5]; omega)
          rw [hg5] at this
          refine this.mono ?_
          rintro e w' ⟨rfl, q, os, rfl⟩
          have hlen : ((numsI is).mergeSort fun x y => decide (x ≤ y)).length = is.length := by rw [List.length_mergeSort, hg5]
          have o1 := Lib.ownsRow_putRow (q := q) (k := is.length) ho hlen (Nat.le_refl _)
          rw [List.take_of_length_le (by omega)] at o1
          have b1 := Lib.below_putRow (q := q) (d := ((numsI is).mergeSort fun x y => decide (x ≤ y)).toArray) (enc := Value.int .i64) hb hg1
          have bg : ∀ W : World, Below W.heap.size W (Sort.grow W os) := fun W => ⟨rfl, rfl, rfl, by simp, fun k hk => Sort.heap_grow_old _ _ hk⟩
          exact ⟨rfl, own_below o1 (bg _), b1.trans ((bg _).mono b1.size)⟩
      clear HN HV
      go_wp2_with fail
      refine hSort.mono ?_
      rintro e w2 ⟨rfl, ho2, hb2⟩
      go_wp2
      go_ret
      exact ⟨_, rfl, ho2, hb2⟩
end Go.Proofs.YtilkdeghknjjhaaGreatDoor
