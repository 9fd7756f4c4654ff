/- The contract of the document's Encode. -/
import Derived.Test.YtkiipmdplpcfeaaS4
import Derived.WalkKit
import Derived.WalkSpells
import Derived.WalkLawsBesides
import Derived.Deep.QuietTactic
import Derived.BigQuiet
import Derived.Lib.QuietBelow
namespace Go.Proofs.Ytkiipmdplpcfeaa
open Go.RowKit Go.Sort M
set_option linter.unusedVariables false

theorem lo_be8 (c : Int) : loN c 8 = be8 c := rfl
theorem lo_one (c : Int) (h0 : 0 ≤ c) (h1 : c < 256) : loN c 1 = [c] := by
  have : byteAt c 0 = c := by show c / 2 ^ 0 % 256 = c; simp; omega
  show [byteAt c 0] = [c]
  rw [this]

set_option maxRecDepth 40000 in
set_option maxHeartbeats 1600000 in
theorem refEncode_no (v : Value) (l : List (Int × Int)) (w : World) (hrd : Rd w v l) (hk : ¬ Clk l) :
    Calls Try.prog 17 #[v] w fun e w' => e = .returned (.tuple #[.string ByteArray.empty, .int .i64 1]) ∧ Below w.heap.size w w' := by
  have HK : Hid (¬ Clk l) := hk
  clear hk
  go_enter Try.func17, Try.ntmps17
  go_wp2_with fail
  refine (refClock_any v l _ hrd).mono ?_
  rintro e w1 ⟨ok, F, rfl, hok, hF, hb⟩
  have hsz := hb.size
  obtain rfl : ok = false := by cases ok; rfl; exact absurd (hok.1 rfl) HK.out
  clear hok hF
  go_wp2_with (first
    | (refine wpList_store_row rfl 61 _ _ rfl w1.heap.size (arr F) rfl rfl 61 (arr zF) (alloc_lit w1 (arr zF)) (by rw [arr_size]; exact info61) (by rw [arr_size, arr_size]) (one_arr _) ?_))
  go_ret2
  exact ⟨rfl, below_setRow (hb.alloc hsz _) hsz _⟩

set_option maxRecDepth 40000 in
set_option maxHeartbeats 1600000 in
theorem refEncode_yes (v : Value) (l : List (Int × Int)) (w : World) (hrd : Rd w v l) (hk : Clk l) :
    Calls Try.prog 17 #[v] w fun e w' => e = .returned (.tuple #[.string (strOfNums (encL l)), .int .i64 0]) ∧ Below w.heap.size w w' := by
  have HK : Hid (Clk l) := hk
  have hl8 : l.length ≤ 8 := hk.1
  clear hk
  go_enter Try.func17, Try.ntmps17
  go_wp2_with fail
  refine (refClock_any v l _ hrd).mono ?_
  rintro e w1 ⟨ok, F, rfl, hok, hF, hb⟩
  have hsz := hb.size
  obtain rfl : ok = true := hok.2 HK.out
  clear hok hF
  obtain ⟨a, cap, rfl⟩ := hrd.shape
  go_wp2_with (first
    | (refine wpList_store_row rfl 61 _ _ rfl w1.heap.size (arr F) rfl rfl 61 (arr zF) (alloc_lit w1 (arr zF)) (by rw [arr_size]; exact info61) (by rw [arr_size, arr_size]) (one_arr _) ?_))
  obtain ⟨w2, hw2, hb2⟩ : ∃ w2, ((w1.alloc (.cells (arr zF) 61)).setRow w1.heap.size (arr F)) = w2 ∧ Below w.heap.size w w2 := ⟨_, rfl, below_setRow (hb.alloc hsz _) hsz _⟩
  rw [zlit] at hw2
  rw [hw2]
  clear hw2 hb hsz
  have hsz2 := hb2.size
  refine (refbytes_any (l.length : Int) 1 w2 (by omega) (by omega) (by decide)).mono ?_
  rintro e w3 ⟨rfl, hb3⟩
  rw [lo_one _ (by omega) (by omega)]
  have hb03 := hb2.trans (hb3.mono hsz2)
  clear hb2 hb3 hsz2
  have hsz3 := hb03.size
  have hrd3 := hrd.below hb03
  clear hrd
  obtain ⟨a', cap', hv, hlc, hc, hA⟩ := hrd3
  simp only [Value.slice.injEq, true_and] at hv
  obtain ⟨rfl, rfl⟩ := hv
  clear hlc hc
  go_wp2_with fail
  go_loopw [6, 7] (fun s i wr => ∃ (k : Nat) (t : ByteArray), k ≤ l.length ∧ i = .int .i64 k ∧ s = .string t ∧ Hid (t = strOfNums (encTo l k)) ∧ Below w3.heap.size w3 wr)
    (fun _ i _ => l.length - (intOf i).toNat)
  case atStart => exact ⟨0, _, Nat.zero_le _, rfl, rfl, rfl, Below.refl _ _⟩
  case round =>
    obtain ⟨k, t, hkl, rfl, rfl, ht, hb⟩ := hrel
    have hszr := hb.size
    by_cases hlt : k < l.length
    · obtain ⟨b, off, rfl, hr⟩ := hA (by omega)
      have c1 : wr.cell? ⟨b, off + k * 2, none⟩ = some (.int .i64 (ent l k).1) := cell_later hb (hr k hlt).1
      have c2 : wr.cell? ⟨b, off + k * 2 + 1, none⟩ = some (.int .i64 (ent l k).2) := cell_later hb (hr k hlt).2
      have hd := (HK.out.2 k hlt).1
      have k1 := cell_regrown c1
      have k2 := cell_regrown c2
      have cA : ∀ d os, Calls Try.prog 44 #[.int .i64 (ent l k).1, .int .i64 1] (grow (redrawn wr d) os) fun e w'' => e = .returned (.string (strOfNums (loN (ent l k).1 1))) ∧ ∃ p : Regrown, w'' = grow (redrawn wr p.d) p.os :=
        fun d os => Calls.regrown_of (refbytes_any (ent l k).1 1 _ hd.1 (by have := hd.2.1; omega) (by decide))
      have cB : ∀ d os, Calls Try.prog 44 #[.int .i64 (ent l k).2, .int .i64 8] (grow (redrawn wr d) os) fun e w'' => e = .returned (.string (strOfNums (loN (ent l k).2 8))) ∧ ∃ p : Regrown, w'' = grow (redrawn wr p.d) p.os :=
        fun d os => Calls.regrown_of (refbytes_any (ent l k).2 8 _ (by have := hd.2.2.1; omega) hd.2.2.2 (by decide))
      rw [lo_one _ hd.1 (by have := hd.2.1; omega)] at cA
      rw [lo_be8] at cB
      have ts : t.size ≤ 100 := by rw [ht.out, strOfNums_size, encTo_len]; omega
      obtain ⟨sa, hsa, ha2⟩ : ∃ s, strOfNums [(ent l k).1] = s ∧ s.size ≤ 1 := ⟨_, rfl, by rw [strOfNums_size]; simp⟩
      obtain ⟨sb, hsb, hb2⟩ : ∃ s, strOfNums (be8 (ent l k).2) = s ∧ s.size ≤ 8 := ⟨_, rfl, by rw [strOfNums_size, be8_len]; omega⟩
      rw [hsa] at cA
      rw [hsb] at cB
      have HS : Hid (t ++ sa ++ sb = strOfNums (encTo l (k + 1))) := by
        show _ = _
        rw [ht.out, ← hsa, ← hsb, str_app, str_app, List.append_assoc]; rfl
      obtain ⟨n1, hn1⟩ : ∃ x, (ent l k).1 = x := ⟨_, rfl⟩
      obtain ⟨n2, hn2⟩ : ∃ x, (ent l k).2 = x := ⟨_, rfl⟩
      rw [hn1] at k1 cA
      rw [hn2] at k2 cB
      have kl : (k : Int) < (l.length : Int) := by omega
      have z1 : ¬ 9223372036854775807 < t.size + sa.size := by omega
      have z2 : ¬ 9223372036854775807 < t.size + sa.size + sb.size := by omega
      have HA : Hid (∀ d os, Calls Try.prog 44 #[.int .i64 n1, .int .i64 1] (grow (redrawn wr d) os) fun e w'' => e = .returned (.string sa) ∧ ∃ p : Regrown, w'' = grow (redrawn wr p.d) p.os) := cA
      have HB : Hid (∀ d os, Calls Try.prog 44 #[.int .i64 n2, .int .i64 8] (grow (redrawn wr d) os) fun e w'' => e = .returned (.string sb) ∧ ∃ p : Regrown, w'' = grow (redrawn wr p.d) p.os) := cB
      clear hA hr c1 c2 hd hsa hsb hn1 hn2 cA cB
      go_wp2_with fail
      refine wp_region_quiet_below (by kernel_rfl) (by kernel_rfl) ?_
      repeat (quiet_step (first | (go_at_call_of 44 (Value.int IntKind.i64 n1); exact HA.out _ _) | (go_at_call_of 44 (Value.int IntKind.i64 n2); exact HB.out _ _)))
      refine wpQuiet_nil ?_
      intro _ hw'
      obtain ⟨⟨dq, osq⟩, hw''⟩ := hw'
      subst hw''
      go_wp2
      go_roundw
      case rel => exact ⟨k + 1, _, by omega, by go_num, rfl, HS, hb.trans ((below_regrown wr dq osq).mono hszr)⟩
      case measure => simp [intOf]; omega
    · have hkk : k = l.length := by omega
      subst hkk
      clear hA
      go_wp2
      go_ret2
      exact ⟨by rw [ht.out]; rfl, hb03.trans (hb.mono hsz3)⟩
end Go.Proofs.Ytkiipmdplpcfeaa
