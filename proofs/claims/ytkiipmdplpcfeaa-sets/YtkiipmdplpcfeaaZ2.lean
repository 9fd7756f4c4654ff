/- unseen. -/
import Derived.Test.YtkiipmdplpcfeaaZ
import Derived.WalkKit
import Derived.WalkSpells
import Derived.WalkLawsBesides
namespace Go.Proofs.Ytkiipmdplpcfeaa
open Go.RowKit M
set_option linter.unusedVariables false

/-- The values that a clock has not seen. -/
def un (c : List (Int × Int)) (l : List Sb) : List Sb := l.filter fun x => ! decide (x.c ≤ cS c x.n)
theorem un_snoc (c : List (Int × Int)) (l : List Sb) (k : Nat) (h : k < l.length) : un c (l.take (k + 1)) = if (sb l k).c ≤ cS c (sb l k).n then un c (l.take k) else un c (l.take k) ++ [sb l k] := by
  have e : l.take (k + 1) = l.take k ++ [sb l k] := by rw [sb_get l k h, List.take_succ_eq_append_getElem h]
  rw [e]
  unfold un
  rw [List.filter_append]
  by_cases hs : (sb l k).c ≤ cS c (sb l k).n
  · rw [if_pos hs]; simp [hs]
  · rw [if_neg hs]; simp [hs]
theorem un_len (c : List (Int × Int)) (l : List Sb) (k : Nat) : (un c (l.take k)).length ≤ k :=
  Nat.le_trans (List.length_filter_le _ _) (by simp; omega)
theorem cells_three_new (w : World) (a b s : Value) (e : TypeId) : ∀ j u, [a, b, s][j]? = some u → (w.alloc (.cells #[a, b, s] e)).cell? ((⟨w.heap.size, 0, none⟩ : Addr).add j) = some u := by
  intro j u hu
  rw [Addr.add_lit, cell_of_row _ _ _ _ _ _ (heap_alloc_new w _)]
  simpa using hu

set_option maxRecDepth 40000 in
set_option maxHeartbeats 1600000 in
theorem unseen_any (v vc : Value) (l : List Sb) (c : List (Int × Int)) (w : World) (hrd : RdS w v l) (hrc : Rd w vc c) (hc : US c) (hl : l.length ≤ 1000) (hd : ∀ x ∈ l, 1 ≤ x.c) :
    Calls Try.prog 48 #[v, vc] w fun e w' => ∃ v', e = .returned v' ∧ w'.ownsRow w.heap.size 57 3 v' (un c l).length (cellsS (un c l)) ∧ Below w.heap.size w w' := by
  obtain ⟨i0, hi, hz0, hz1, hz2⟩ := info_parts Try.info57
  obtain ⟨a, cap, rfl, hlc, hcp, hA⟩ := hrd
  have hl1 : (l.length : Int) ≤ 1000 := by omega
  clear hlc hcp
  go_enter Try.func48, Try.ntmps48
  go_wp2
  go_loopw [5, 10] (fun p q wr => ∃ k : Nat, k ≤ l.length ∧ q = .int .i64 k ∧ wr.ownsRow w.heap.size 57 3 p (un c (l.take k)).length (cellsS (un c (l.take k))) ∧ Below w.heap.size w wr)
    (fun _ q _ => l.length - (intOf q).toNat)
  case atStart => exact ⟨0, Nat.zero_le _, rfl, World.ownsRow_nil _ _ _ _, Below.refl _ _⟩
  case round =>
    obtain ⟨k, hk, rfl, ho, hb⟩ := hrel
    have hsz := hb.size
    have hvl : ∃ a5 cap5, u5 = .slice a5 (un c (l.take k)).length cap5 := by
      rcases ho.2 with ⟨h1, h2⟩ | ⟨g, cap, cur, h1, _⟩
      · exact ⟨none, 0, by rw [h1, h2]⟩
      · exact ⟨_, _, h1⟩
    obtain ⟨a5, cap5, rfl⟩ := hvl
    by_cases hlt : k < l.length
    · obtain ⟨b, off, rfl, hr⟩ := hA (by omega)
      have q1 : (k : Int) < (l.length : Int) := by omega
      have q0 : (0 : Int) ≤ (k : Int) := by omega
      have e0 := cell_later hb (hr k hlt).1
      have e1 := cell_later hb (hr k hlt).2.1
      have e2 := cell_later hb (hr k hlt).2.2
      have hx1 : 1 ≤ (sb l k).c := by rw [sb_get l k hlt]; exact hd _ (List.getElem_mem hlt)
      have hlen := un_len c l k
      have hs := un_snoc c l k hlt
      have HS : Hid (un c (l.take (k + 1)) = if (sb l k).c ≤ cS c (sb l k).n then un c (l.take k) else un c (l.take k) ++ [sb l k]) := hs
      obtain ⟨x, hx⟩ : ∃ x, sb l k = x := ⟨_, rfl⟩
      rw [hx] at e0 e1 e2 hx1 HS
      obtain ⟨U, hU⟩ : ∃ U, un c (l.take k) = U := ⟨_, rfl⟩
      rw [hU] at ho hlen HS
      obtain ⟨m, hm⟩ : ∃ m, U.length = m := ⟨_, rfl⟩
      rw [hm] at ho hlen
      rw [hU, hm]
      clear hA hr hs hx hU
      go_wp2_with fail
      have hbW := hb.alloc hsz (.cells #[.int .i64 x.n, .int .i64 x.c, .string x.v] 57)
      have hoW := ho.alloc (.cells #[.int .i64 x.n, .int .i64 x.c, .string x.v] 57)
      obtain ⟨W, hW, t0, t1, t2⟩ : ∃ W, (wr.alloc (.cells #[.int .i64 x.n, .int .i64 x.c, .string x.v] 57)) = W ∧
          W.cell? ⟨wr.heap.size, 0, none⟩ = some (.int .i64 x.n) ∧ W.cell? ⟨wr.heap.size, 1, none⟩ = some (.int .i64 x.c) ∧ W.cell? ⟨wr.heap.size, 2, none⟩ = some (.string x.v) :=
        ⟨_, rfl, by simp [go_sem], by simp [go_sem], by simp [go_sem]⟩
      rw [hW] at hbW hoW
      rw [hW]
      refine (seen_any vc c x.n x.c W (hrc.below hbW) hc hx1).mono ?_
      rintro e w1 ⟨rfl, hb2⟩
      have f0 := cell_later hb2 t0
      have f1 := cell_later hb2 t1
      have f2 := cell_later hb2 t2
      have ho1 := ownsRow_below hoW hb2
      have hb1 : Below w.heap.size w w1 := hbW.trans (hb2.mono hbW.size)
      have hs1 := hb1.size
      clear e0 e1 e2 t0 t1 t2 hW hbW hoW ho hb hb2
      by_cases hsn : x.c ≤ cS c x.n
      · have HU : Hid (un c (l.take (k + 1)) = U) := by
          show _ = _
          rw [HS.out, if_pos hsn]
        have gd : decide (x.c ≤ cS c x.n) = true := by simpa using hsn
        rw [gd]
        clear gd hsn HS
        go_wp2
        go_roundw
        case rel => exact ⟨k + 1, by omega, by go_num, by rw [HU.out, hm]; exact ho1, hb1⟩
        case measure => simp [intOf]; omega
      · have HU : Hid (un c (l.take (k + 1)) = U ++ [x]) := by
          show _ = _
          rw [HS.out, if_neg hsn]
        have gd : decide (x.c ≤ cS c x.n) = false := by simpa using hsn
        rw [gd]
        clear gd hsn HS
        go_wp2_with (first
          | (at_builtin; refine wpList_append_own _ rfl _ _ 36 rfl w.heap.size 57 i0 (.agg #[.int .i64 0, .int .i64 0, .string ByteArray.empty]) 3 32 Try.underlying36 hi hz0 hz1 hz2 rfl (by decide) _ _ _ rfl (ho1.alloc _) ⟨w1.heap.size, 0, none⟩ 1 1 [.int .i64 x.n, .int .i64 x.c, .string x.v] rfl rfl ?c1 ?c2 ?c3 ?c4 ?c5 ?_))
        case c1 => exact cells_three_new _ _ _ _ _
        case c2 => intro u hu; simp at hu; rcases hu with rfl | rfl | rfl <;> rfl
        case c3 => unfold maxLen; omega
        case c4 => omega
        case c5 => simp; omega
        · intro v' w2 hown' hgrow _
          have hb3 : Below w.heap.size w w2 := (hb1.alloc (by omega) _).grown hgrow (by simp; omega) (fun q hq => (ho1.lt q hq).1)
          go_wp2
          go_roundw
          case rel => exact ⟨k + 1, by omega, by go_num, by rw [HU.out, List.length_append, cellsS_snoc, hm]; exact hown', hb3⟩
          case measure => simp [intOf]; omega
    · have he : k = l.length := by omega
      subst he
      rw [List.take_length] at ho
      rw [List.take_length]
      clear hA
      go_wp2
      go_ret
      exact ⟨_, rfl, ho, hb⟩
end Go.Proofs.Ytkiipmdplpcfeaa
