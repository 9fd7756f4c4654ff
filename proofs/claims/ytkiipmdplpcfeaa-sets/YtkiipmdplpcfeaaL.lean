/- The contracts of seen, Covers and Join. -/
import Derived.Test.YtkiipmdplpcfeaaK
import Derived.WalkKit
import Derived.WalkSpells
import Derived.WalkLawsBesides
import Derived.Deep.QuietTactic
import Derived.BigQuiet
namespace Go.Proofs.Ytkiipmdplpcfeaa
open Go.RowKit M
set_option linter.unusedVariables false

set_option maxRecDepth 20000 in
set_option maxHeartbeats 400000 in
theorem seen_any (v : Value) (l : List (Int × Int)) (n c : Int) (w : World) (hrd : Rd w v l) (hu : US l) (h1 : 1 ≤ c) :
    Calls Try.prog 41 #[v, .int .i64 n, .int .i64 c] w fun e w' => e = .returned (.bool (decide (c ≤ cS l n))) ∧ Below w.heap.size w w' := by
  obtain ⟨a, cap, rfl, hlc, hc, hA⟩ := hrd
  have hl1 : (l.length : Int) ≤ 9223372036854775807 := by omega
  clear hlc hc
  go_enter Try.func41, Try.ntmps41
  go_wp2
  go_loopw [8, 11] (fun _ i wr => ∃ k : Nat, k ≤ l.length ∧ i = .int .i64 k ∧ Hid (∀ e ∈ l.take k, e.1 ≠ n) ∧ Below w.heap.size w wr)
    (fun _ i _ => l.length - (intOf i).toNat)
  case atStart => exact ⟨0, Nat.zero_le _, rfl, fun e h => by simp at h, Below.refl _ _⟩
  case round =>
    obtain ⟨k, hk, rfl, he, hb⟩ := hrel
    have hsz := hb.size
    by_cases hlt : k < l.length
    · obtain ⟨b, off, rfl, hr⟩ := hA (by omega)
      have hmem : ent l k ∈ l := by rw [ent_get l k hlt]; exact List.getElem_mem hlt
      have hcs := cS_mem hu hmem
      have hts := take_snoc' l k hlt
      have HM : Hid (cS l (ent l k).1 = (ent l k).2 ∧ l.take (k + 1) = l.take k ++ [ent l k]) := ⟨hcs, hts⟩
      have c1 : wr.cell? ⟨b, off + k * 2, none⟩ = some (.int .i64 (ent l k).1) := cell_later hb (hr k hlt).1
      have c2 : wr.cell? ⟨b, off + k * 2 + 1, none⟩ = some (.int .i64 (ent l k).2) := cell_later hb (hr k hlt).2
      have HU : Hid (US l) := hu
      clear hA hr hcs hts hmem hu
      by_cases hn : (ent l k).1 = n
      · have hn' : ((ent l k).1 == n) = true := by simp [hn]
        have HN : Hid ((ent l k).1 = n) := hn
        clear hn
        go_wp2
        go_ret
        refine ⟨?_, by repeat (first | exact hb | refine below_drewN ?_ _ | refine Below.drew ?_ | refine Below.setCell ?_ (by first | omega | (simp; omega)) _ | refine Below.alloc ?_ (by first | omega | (simp; omega)) _)⟩
        have hN := HN.out
        rw [← hN, HM.out.1]
        rfl
      · have hn' : ((ent l k).1 == n) = false := by simp [hn]
        have HN : Hid (¬ (ent l k).1 = n) := hn
        clear hn
        go_wp2
        go_roundw
        case rel => exact ⟨k + 1, by omega, by go_num, fun e hx => by
          rw [HM.out.2] at hx
          rcases List.mem_append.1 hx with h | h
          · exact he.out e h
          · simp at h; subst h; exact HN.out, by repeat (first | exact hb | refine below_drewN ?_ _ | refine Below.drew ?_ | refine Below.setCell ?_ (by first | omega | (simp; omega)) _ | refine Below.alloc ?_ (by first | omega | (simp; omega)) _)⟩
        case measure => simp [intOf]; omega
    · have hkk : k = l.length := by omega
      have h0 : cS l n = 0 := cS_none (fun e hx => he.out e (by rw [hkk, List.take_length]; exact hx))
      have HF : Hid (decide (c ≤ cS l n) = false) := decide_eq_false (by rw [h0]; omega)
      clear h0 hkk
      go_wp2
      go_ret
      exact ⟨by rw [HF.out]; rfl, hb⟩

set_option maxRecDepth 20000 in
set_option maxHeartbeats 400000 in
theorem Covers_any (v : Value) (l : List (Int × Int)) (n c : Int) (w : World) (hrd : Rd w v l) :
    Calls Try.prog 14 #[v, .int .i64 n, .int .i64 c] w fun e w' => ∃ r, e = .returned (.bool r) ∧ (r = true ↔ Clk l ∧ Dot n c ∧ c ≤ cS l n) ∧ Below w.heap.size w w' := by
  go_enter Try.func14, Try.ntmps14
  go_wp2_with fail
  refine (isClock_any v l _ hrd).mono ?_
  rintro e w1 ⟨r, rfl, hr, hb⟩
  have hrd1 := hrd.below hb
  have hsz := hb.size
  cases r
  · have HN : Hid (¬ Clk l) := fun h => Bool.noConfusion (hr.2 h)
    clear hr
    go_wp2
    go_ret
    exact ⟨false, rfl, by simp; intro h; exact absurd h HN.out, hb⟩
  · have hk : Clk l := hr.1 rfl
    have HK : Hid (Clk l) := hk
    clear hr hk
    go_wp2_with fail
    refine (isDot_any n c _).mono ?_
    rintro e w2 ⟨rfl, rfl⟩
    by_cases hd : dotB n c = true
    · have hdd := (dotB_iff _ _).1 hd
      have h1 : 1 ≤ c := hdd.2.2.1
      rw [hd]
      have HD : Hid (Dot n c) := hdd
      clear hd hdd
      go_wp2_with fail
      refine (seen_any v l n c _ hrd1 ((clk_iff l).1 HK.out).2 h1).mono ?_
      rintro e w3 ⟨rfl, hb3⟩
      go_wp2
      go_ret
      exact ⟨_, rfl, by simp [HK.out, HD.out], hb.trans (hb3.mono hsz)⟩
    · have hd' : dotB n c = false := by simpa using hd
      have HD : Hid (¬ Dot n c) := fun h => hd ((dotB_iff _ _).2 h)
      rw [hd']
      clear hd hd'
      go_wp2
      go_ret
      exact ⟨false, rfl, by simp; intro _ h; exact absurd h HD.out, hb⟩

/-- What Join of two clocks answers. -/
def JoinEnd (w : World) (l m : List (Int × Int)) (e : Ending) (w' : World) : Prop :=
  ((¬ Clk l ∨ ¬ Clk m) ∧ e = .returned (.tuple #[.slice none 0 0, .int .i64 1])) ∨
  (Clk l ∧ Clk m ∧ 8 < (jn [l, m]).length ∧ e = .returned (.tuple #[.slice none 0 0, .int .i64 5])) ∨
  (Clk l ∧ Clk m ∧ (jn [l, m]).length ≤ 8 ∧ ∃ v, e = .returned (.tuple #[v, .int .i64 0]) ∧ w'.ownsRow w.heap.size 52 2 v (jn [l, m]).length (cellsE (jn [l, m])))

theorem own_base {w : World} {B B' e size n : Nat} {v : Value} {xs : List Value} (h : w.ownsRow B' e size v n xs) (hB : B ≤ B') : w.ownsRow B e size v n xs :=
  ⟨h.1, h.2.imp id (fun ⟨g, cap, cur, a, b, c⟩ => ⟨g, cap, cur, a, Nat.le_trans hB b, c⟩)⟩

theorem Rd.shape {w : World} {v : Value} {l : List (Int × Int)} (h : Rd w v l) : ∃ a cap, v = .slice a l.length cap := by
  obtain ⟨a, cap, hv, _⟩ := h
  exact ⟨a, cap, hv⟩

set_option maxRecDepth 20000 in
set_option maxHeartbeats 400000 in
theorem Join_any (v u : Value) (l m : List (Int × Int)) (w : World) (hv : Rd w v l) (hu : Rd w u m) :
    Calls Try.prog 10 #[v, u] w fun e w' => JoinEnd w l m e w' ∧ Below w.heap.size w w' := by
  obtain ⟨a, ca, rfl⟩ := hv.shape
  obtain ⟨b, cb, rfl⟩ := hu.shape
  go_enter Try.func10, Try.ntmps10
  go_wp2_with fail
  refine (isClock_any _ l _ hv).mono ?_
  rintro e w1 ⟨r, rfl, hr, hb⟩
  have hv1 := hv.below hb
  have hu1 := hu.below hb
  have hsz := hb.size
  cases r
  · have HN : Hid (¬ Clk l) := fun h => Bool.noConfusion (hr.2 h)
    clear hr
    go_wp2
    go_ret2
    exact ⟨.inl ⟨.inl HN.out, rfl⟩, hb⟩
  · have hk : Clk l := hr.1 rfl
    have HK : Hid (Clk l) := hk
    clear hr hk
    go_wp2_with fail
    refine (isClock_any _ m _ hu1).mono ?_
    rintro e w2 ⟨r, rfl, hr, hb2⟩
    have hv2 := hv1.below hb2
    have hu2 := hu1.below hb2
    have hb12 := hb.trans (hb2.mono hsz)
    have hsz2 := hb12.size
    cases r
    · have HN : Hid (¬ Clk m) := fun h => Bool.noConfusion (hr.2 h)
      clear hr
      go_wp2
      go_ret2
      exact ⟨.inl ⟨.inr HN.out, rfl⟩, hb12⟩
    · have hk : Clk m := hr.1 rfl
      have HK2 : Hid (Clk m) := hk
      clear hr hk
      go_wp2_with fail
      have hb3 : Below w2.heap.size w2 (w2.alloc (.cells #[.slice a l.length ca, .slice b m.length cb] 22)) := (Below.refl _ _).alloc (Nat.le_refl _) _
      refine (join_any w2.heap.size 2 [l, m] _ rfl (by decide) (fun j hj => ?_)).mono ?_
      · match j, hj with
        | 0, _ => exact ⟨_, by simp [go_sem], hv2.below hb3, HK.out.2⟩
        | 1, _ => exact ⟨_, by simp [go_sem], hu2.below hb3, HK2.out.2⟩
      · rintro e w3 ⟨hb4, ⟨h8, rfl⟩ | ⟨h8, v3, rfl, ho⟩⟩
        · have hb5 := hb12.trans ((hb3.trans (hb4.mono (by simp))).mono hsz2)
          go_wp2
          go_ret2
          exact ⟨.inr (.inl ⟨HK.out, HK2.out, h8, rfl⟩), hb5⟩
        · have hb5 := hb12.trans ((hb3.trans (hb4.mono (by simp))).mono hsz2)
          have ho2 := own_base (B := w.heap.size) ho (by simp; omega)
          go_wp2
          go_ret2
          exact ⟨.inr (.inr ⟨HK.out, HK2.out, h8, _, rfl, ho2⟩), hb5⟩
end Go.Proofs.Ytkiipmdplpcfeaa
