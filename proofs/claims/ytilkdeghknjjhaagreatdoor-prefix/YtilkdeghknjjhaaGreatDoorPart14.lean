/- The contract of the document's Encode. -/
import Derived.Test.YtilkdeghknjjhaaGreatDoorPart13
import Derived.WalkKit
import Derived.WalkSpells
import Derived.WalkLawsBesides
import Derived.Deep.QuietTactic
import Derived.BigQuiet
import Derived.Lib.QuietBelow
import Derived.Lib.Strings
namespace Go.Proofs.YtilkdeghknjjhaaGreatDoor
open Go.RowKit Go.Sort M
set_option linter.unusedVariables false

theorem lo_be8 (c : Int) : loN c 8 = be8 c := rfl
theorem lo_one (c : Int) (h0 : 0 ≤ c) (h1 : c < 256) : loN c 1 = [c] := by
  have : byteAt c 0 = c := by show c / 2 ^ 0 % 256 = c; simp; omega
  show [byteAt c 0] = [c]
  rw [this]

set_option maxRecDepth 40000 in
set_option maxHeartbeats 1600000 in
theorem refEncode_no (v : Value) (l : List (Int × Int)) (w : World) (hrd : Rd w v l) (hk : ¬ Clk l) :
    Calls Tryz.prog 171 #[v] w fun e w' => e = .returned (.tuple #[.string ByteArray.empty, .int .i64 1]) ∧ Below w.heap.size w w' := by
  have HK : Hid (¬ Clk l) := hk
  clear hk
  go_enter Tryz.func171, Tryz.ntmps171
  go_wp2_with fail
  refine (refClock_any v l _ hrd).mono ?_
  rintro e w1 ⟨ok, F, rfl, hok, hF, hb⟩
  have hsz := hb.size
  obtain rfl : ok = false := by cases ok; rfl; exact absurd (hok.1 rfl) HK.out
  clear hok hF
  go_wp2_with (first
    | (refine wpList_store_row rfl 241 _ _ rfl w1.heap.size (arr F) rfl rfl 241 (arr zF) (alloc_lit w1 (arr zF)) (by rw [arr_size]; exact info61) (by rw [arr_size, arr_size]) (one_arr _) ?_))
  go_ret2
  exact ⟨rfl, below_setRow (hb.alloc hsz _) hsz _⟩

set_option maxRecDepth 40000 in
set_option maxHeartbeats 1600000 in
theorem refEncode_yes (v : Value) (l : List (Int × Int)) (w : World) (hrd : Rd w v l) (hk : Clk l) :
    Calls Tryz.prog 171 #[v] w fun e w' => e = .returned (.tuple #[.string (strOfNums (encL l)), .int .i64 0]) ∧ Below w.heap.size w w' := by
  have HK : Hid (Clk l) := hk
  have hl8 : l.length ≤ 8 := hk.1
  clear hk
  go_enter Tryz.func171, Tryz.ntmps171
  go_wp2_with fail
  refine (refClock_any v l _ hrd).mono ?_
  rintro e w1 ⟨ok, F, rfl, hok, hF, hb⟩
  have hsz := hb.size
  obtain rfl : ok = true := hok.2 HK.out
  clear hok hF
  obtain ⟨a, cap, rfl⟩ := hrd.shape
  go_wp2_with (first
    | (refine wpList_store_row rfl 241 _ _ rfl w1.heap.size (arr F) rfl rfl 241 (arr zF) (alloc_lit w1 (arr zF)) (by rw [arr_size]; exact info61) (by rw [arr_size, arr_size]) (one_arr _) ?_))
  obtain ⟨w2, hw2, hb2⟩ : ∃ w2, ((w1.alloc (.cells (arr zF) 241)).setRow w1.heap.size (arr F)) = w2 ∧ Below w.heap.size w w2 := ⟨_, rfl, below_setRow (hb.alloc hsz _) hsz _⟩
  rw [zlit] at hw2
  rw [hw2]
  clear hw2 hb hsz
  have hsz2 := hb2.size
  refine (refbytes_any (l.length : Int) 1 w2 (by omega) (by omega) (by decide)).mono ?_
  rintro e w3 ⟨rfl, hb3⟩
  rw [lo_one _ (by omega) (by omega)]
  have hb03 := hb2.trans (hb3.mono hsz2)
  clear hb2 hb3 hsz2
  have hsz3 := hb03.size
  have hrd3 := hrd.below hb03
  clear hrd
  obtain ⟨a', cap', hv, hlc, hc, hA⟩ := hrd3
  simp only [Value.slice.injEq, true_and] at hv
  obtain ⟨rfl, rfl⟩ := hv
  clear hlc hc
  go_wp2_with fail
  go_loopw [6, 7] (fun s i wr => ∃ (k : Nat) (t : ByteArray), k ≤ l.length ∧ i = .int .i64 k ∧ s = .string t ∧ Hid (t = strOfNums (encTo l k)) ∧ Below w3.heap.size w3 wr)
    (fun _ i _ => l.length - (intOf i).toNat)
  case atStart => exact ⟨0, _, Nat.zero_le _, rfl, rfl, rfl, Below.refl _ _⟩
  case round =>
    obtain ⟨k, t, hkl, rfl, rfl, ht, hb⟩ := hrel
    have hszr := hb.size
    by_cases hlt : k < l.length
    · obtain ⟨b, off, rfl, hr⟩ := hA (by omega)
      have c1 : wr.cell? ⟨b, off + k * 2, none⟩ = some (.int .i64 (ent l k).1) := cell_later hb (hr k hlt).1
      have c2 : wr.cell? ⟨b, off + k * 2 + 1, none⟩ = some (.int .i64 (ent l k).2) := cell_later hb (hr k hlt).2
      have hd := (HK.out.2 k hlt).1
      have k1 := cell_regrown c1
      have k2 := cell_regrown c2
      have cA : ∀ d os, Calls Tryz.prog 214 #[.int .i64 (ent l k).1, .int .i64 1] (grow (redrawn wr d) os) fun e w'' => e = .returned (.string (strOfNums (loN (ent l k).1 1))) ∧ ∃ p : Regrown, w'' = grow (redrawn wr p.d) p.os :=
        fun d os => Calls.regrown_of (refbytes_any (ent l k).1 1 _ hd.1 (by have := hd.2.1; omega) (by decide))
      have cB : ∀ d os, Calls Tryz.prog 214 #[.int .i64 (ent l k).2, .int .i64 8] (grow (redrawn wr d) os) fun e w'' => e = .returned (.string (strOfNums (loN (ent l k).2 8))) ∧ ∃ p : Regrown, w'' = grow (redrawn wr p.d) p.os :=
        fun d os => Calls.regrown_of (refbytes_any (ent l k).2 8 _ (by have := hd.2.2.1; omega) hd.2.2.2 (by decide))
      rw [lo_one _ hd.1 (by have := hd.2.1; omega)] at cA
      rw [lo_be8] at cB
      have ts : t.size ≤ 100 := by rw [ht.out, strOfNums_size, encTo_len]; omega
      obtain ⟨sa, hsa, ha2⟩ : ∃ s, strOfNums [(ent l k).1] = s ∧ s.size ≤ 1 := ⟨_, rfl, by rw [strOfNums_size]; simp⟩
      obtain ⟨sb, hsb, hb2⟩ : ∃ s, strOfNums (be8 (ent l k).2) = s ∧ s.size ≤ 8 := ⟨_, rfl, by rw [strOfNums_size, be8_len]; omega⟩
      rw [hsa] at cA
      rw [hsb] at cB
      have HS : Hid (t ++ sa ++ sb = strOfNums (encTo l (k + 1))) := by
        show _ = _
        rw [ht.out, ← hsa, ← hsb, str_app, str_app, List.append_assoc]; rfl
      obtain ⟨n1, hn1⟩ : ∃ x, (ent l k).1 = x := ⟨_, rfl⟩
      obtain ⟨n2, hn2⟩ : ∃ x, (ent l k).2 = x := ⟨_, rfl⟩
      rw [hn1] at k1 cA
      rw [hn2] at k2 cB
      have kl : (k : Int) < (l.length : Int) := by omega
      have z1 : ¬ 9223372036854775807 < t.size + sa.size := by omega
      have z2 : ¬ 9223372036854775807 < t.size + sa.size + sb.size := by omega
      have HA : Hid (∀ d os, Calls Tryz.prog 214 #[.int .i64 n1, .int .i64 1] (grow (redrawn wr d) os) fun e w'' => e = .returned (.string sa) ∧ ∃ p : Regrown, w'' = grow (redrawn wr p.d) p.os) := cA
      have HB : Hid (∀ d os, Calls Tryz.prog 214 #[.int .i64 n2, .int .i64 8] (grow (redrawn wr d) os) fun e w'' => e = .returned (.string sb) ∧ ∃ p : Regrown, w'' = grow (redrawn wr p.d) p.os) := cB
      clear hA hr c1 c2 hd hsa hsb hn1 hn2 cA cB
      go_wp2_with fail
      refine wp_region_quiet_below (by kernel_rfl) (by kernel_rfl) ?_
      repeat (quiet_step (first | (go_at_call_of 214 (Value.int IntKind.i64 n1); exact HA.out _ _) | (go_at_call_of 214 (Value.int IntKind.i64 n2); exact HB.out _ _)))
      refine wpQuiet_nil ?_
      intro _ hw'
      obtain ⟨⟨dq, osq⟩, hw''⟩ := hw'
      subst hw''
      go_wp2
      go_roundw
      case rel => exact ⟨k + 1, _, by omega, by go_num, rfl, HS, hb.trans ((below_regrown wr dq osq).mono hszr)⟩
      case measure => simp [intOf]; omega
    · have hkk : k = l.length := by omega
      subst hkk
      clear hA
      go_wp2
      go_ret2
      exact ⟨by rw [ht.out]; rfl, hb03.trans (hb.mono hsz3)⟩
end Go.Proofs.YtilkdeghknjjhaaGreatDoor
/- The contract of the document's Decode. -/
namespace Go.Proofs.YtilkdeghknjjhaaGreatDoor
open Go.RowKit M
set_option linter.unusedVariables false

/-- What Decode answers. -/
def DecEnd (w : World) (s : ByteArray) (e : Ending) (w' : World) : Prop :=
  (¬ Dec s.data.toList ∧ e = .returned (.tuple #[.slice none 0 0, .int .i64 2])) ∨
  (Dec s.data.toList ∧ ∃ v, e = .returned (.tuple #[v, .int .i64 0]) ∧ w'.ownsRow w.heap.size 183 2 v (hd s.data.toList) (cellsE (rdTo s.data.toList (hd s.data.toList))))

theorem wrap_step (V b : Nat) : wrap64 (wrap64 (256 * wrap64 (V : Int)) + (b : Int)) = wrap64 ((V * 256 + b : Nat) : Int) := by
  unfold wrap64; omega
theorem take_more (s : ByteArray) (p m : Nat) (h : p + m < s.size) : (s.data.toList.drop p).take (m + 1) = (s.data.toList.drop p).take m ++ [s[p + m]] := by
  rw [List.take_succ_eq_append_getElem (by rw [List.length_drop, toList_size]; omega)]
  congr 1
  rw [List.getElem_drop]
  rfl

theorem dec_of {s : ByteArray} {k : Nat} (hk : Clk (rdTo s.data.toList k)) (he : strOfNums (encL (rdTo s.data.toList k)) = s) : Dec s.data.toList ∧ k = hd s.data.toList := by
  have h1 := str_enc (rdTo s.data.toList k)
  rw [he] at h1
  have h2 := dec_enc hk
  rw [← h1] at h2
  refine ⟨h2, ?_⟩
  have h3 := hd_enc hk
  rw [← h1, rdTo_len] at h3
  exact h3.symm

set_option maxRecDepth 40000 in
set_option maxHeartbeats 1600000 in
theorem refDecode_any (s : ByteArray) (w : World) (hs : s.size ≤ maxLen) :
    Calls Tryz.prog 215 #[.string s] w fun e w' => DecEnd w s e w' ∧ Below w.heap.size w w' := by
  obtain ⟨i0, hi, hz0, hz1, hz2⟩ := info_parts Tryz.info183
  unfold maxLen at hs
  have hs' : (s.size : Int) ≤ 9223372036854775807 := by omega
  clear hs
  go_enter Tryz.func215, Tryz.ntmps215
  go_wp2
  go_loopw [4, 5, 6, 7] (fun c a _ _ wr => ∃ k p : Nat, k ≤ 9 ∧ Hid (p = 1 + 9 * k) ∧ p ≤ 82 ∧ Hid (0 < k → p ≤ s.size) ∧ a = .int .i64 p ∧ wr.ownsRow w.heap.size 183 2 c k (cellsE (rdTo s.data.toList k)) ∧ Below w.heap.size w wr)
    (fun _ a _ _ _ => 200 - (intOf a).toNat)
  case atStart => exact ⟨0, 1, by omega, rfl, by omega, fun h => by omega, rfl, World.ownsRow_nil _ _ _ _, Below.refl _ _⟩
  case round =>
    obtain ⟨k, p, hk, hp, hp82, hps, rfl, ho, hb⟩ := hrel
    have hsz := hb.size
    have hvl : ∃ a cap, u4 = .slice a k cap := by
      rcases ho.2 with ⟨h1, h2⟩ | ⟨g, cap, cur, h1, _⟩
      · exact ⟨none, 0, by rw [h1, h2]⟩
      · exact ⟨_, _, h1⟩
    obtain ⟨a4, c4, rfl⟩ := hvl
    by_cases hlt : p + 9 ≤ s.size ∧ k < 9
    · obtain ⟨q1, q2⟩ := hlt
      have q1' : (p : Int) + 9 ≤ (s.size : Int) := by omega
      have q2' : (k : Int) < 9 := by omega
      go_wp2_with fail
      obtain ⟨wo, rfl⟩ : ∃ wo : World, wo = wr := ⟨_, rfl⟩
      go_loop [6, 7] (fun n i => ∃ (m : Nat) (q : Int), m ≤ 8 ∧ i = .int .i64 ((m + 1 : Nat) : Int) ∧ n = .int .i64 q ∧ Hid (q = wrap64 (val ((s.data.toList.drop (p + 1)).take m)))) (fun _ i => 20 - (intOf i).toNat)
      case atStart => exact ⟨0, 0, by omega, rfl, rfl, by show _ = _; simp [val, wrap64]⟩
      case round =>
        obtain ⟨m, q, hm, rfl, rfl, hq⟩ := hrel
        by_cases hm8 : m < 8
        · have hbd : (s[p + (m + 1)].toNat : Int) < 256 := by have := s[p + (m + 1)].toNat_lt; omega
          go_wp2
          go_round
          case rel =>
            refine ⟨m + 1, _, by omega, by go_num, rfl, ?_⟩
            show _ = _
            rw [take_more s (p + 1) m (by omega), val_snoc, hq.out, wrap_step]
            congr 3
            simp only [Nat.add_assoc, Nat.add_comm 1 m]
          case measure => simp [intOf]; omega
        · obtain rfl : m = 8 := by omega
          have hbp : (s[p].toNat : Int) < 256 := by have := s[p].toNat_lt; omega
          have HE : Hid (rdE s.data.toList k = ((s[p].toNat : Int), q)) := by
            show _ = _
            have e1 : 1 + 9 * k = p := hp.out.symm
            have e2 : 2 + 9 * k = p + 1 := by omega
            unfold rdE
            rw [e1, e2, getD_byte s p (by omega), ← hq.out]
          go_wp2_with (first
            | (at_builtin; refine wpList_append_own _ rfl _ _ 109 rfl w.heap.size 183 i0 (.agg #[.int .i64 0, .int .i64 0]) 2 16 Tryz.underlying109 hi hz0 hz1 hz2 rfl (by decide) _ _ _ rfl (ho.alloc _) ⟨wo.heap.size, 0, none⟩ 1 1 [.int .i64 s[p].toNat, .int .i64 q] rfl rfl ?c1 ?c2 ?c3 ?c4 ?c5 ?_))
          case c1 => exact cell_two_new _ _ _ _
          case c2 => intro u hu; simp at hu; rcases hu with rfl | rfl <;> rfl
          case c3 => unfold maxLen; omega
          case c4 => omega
          case c5 => simp; omega
          · intro v' w2 hown' hgrow _
            have hb3 : Below w.heap.size w w2 := (hb.alloc (by omega) _).grown hgrow (by simp; omega) (fun q hq => (ho.lt q hq).1)
            go_wp2
            go_roundw
            case rel => exact ⟨k + 1, p + 9, by omega, by show _ = _; have := hp.out; omega, by have := hp.out; omega, fun _ => by omega, by go_num, by rw [rdTo, cellsE_snoc, HE.out]; exact hown', hb3⟩
            case measure => simp [intOf]; omega
    · by_cases q1 : p + 9 ≤ s.size
      · have q1' : (p : Int) + 9 ≤ (s.size : Int) := by omega
        have hk9 : k = 9 := by omega
        have q2' : decide ((k : Int) < 9) = false := by simp; omega
        have HK9 : Hid (k = 9) := hk9
        clear hk9
        have ho' := ho
        have hrd : Rd wr (.slice a4 k c4) (rdTo s.data.toList k) := Rd.own ho (rdTo_len _ _).symm
        by_cases hck : Clk (rdTo s.data.toList k)
        · go_wp2_with fail
          refine (refEncode_yes _ _ wr hrd hck).mono ?_
          rintro e w2 ⟨rfl, hb2⟩
          have HO : Hid (w2.ownsRow w.heap.size 183 2 (.slice a4 k c4) k (cellsE (rdTo s.data.toList k))) := own_below ho hb2
          have hb3 := hb.trans (hb2.mono hsz)
          have HC : Hid (Clk (rdTo s.data.toList k)) := hck
          clear ho ho' hrd hck hb2
          by_cases heq : strOfNums (encL (rdTo s.data.toList k)) = s
          · have HD := dec_of HC.out heq
            have HDD : Hid (Dec s.data.toList ∧ k = hd s.data.toList) := HD
            rw [heq]
            clear heq HD
            go_wp2
            go_ret2
            refine ⟨.inr ⟨HDD.out.1, _, rfl, ?_⟩, hb3⟩
            rw [← HDD.out.2]
            exact HO.out
          · have HND : Hid (¬ Dec s.data.toList) := fun d => heq (by
              have h8 : hd s.data.toList ≤ 8 := by have := d.2.2.1; rw [rdTo_len] at this; exact this
              have h1 := d.2.1
              rw [toList_size] at h1
              have h2 := hp.out
              have h3 : k = hd s.data.toList := by
                have := hps.out
                have := HK9.out; omega
              rw [h3]
              exact enc_dec s d)
            obtain ⟨t, ht⟩ : ∃ t, strOfNums (encL (rdTo s.data.toList k)) = t := ⟨_, rfl⟩
            have hbeq : (t.toList == s.toList) = false := by
              rw [← ht, Lib.toList_data, Lib.toList_data, beq_eq_false_iff_ne]
              intro h; exact heq (WideShapes.bytes_inj h)
            rw [ht]
            clear ht heq
            go_wp2
            go_ret2
            exact ⟨.inl ⟨HND.out, rfl⟩, hb3⟩
        · go_wp2_with fail
          refine (refEncode_no _ _ wr hrd hck).mono ?_
          rintro e w2 ⟨rfl, hb2⟩
          have HND : Hid (¬ Dec s.data.toList) := fun d => hck (by
              have h8 : hd s.data.toList ≤ 8 := by have := d.2.2.1; rw [rdTo_len] at this; exact this
              have h1 := d.2.1
              rw [toList_size] at h1
              have h2 := hp.out
              have h3 : k = hd s.data.toList := by
                have := hps.out
                have := HK9.out; omega
              rw [h3]
              exact d.2.2)
          have hb3 := hb.trans (hb2.mono hsz)
          clear ho ho' hrd hck hb2
          go_wp2
          go_ret2
          exact ⟨.inl ⟨HND.out, rfl⟩, hb3⟩
      · have q1' : decide ((p : Int) + 9 ≤ (s.size : Int)) = false := by simp; omega
        have ho' := ho
        have hrd : Rd wr (.slice a4 k c4) (rdTo s.data.toList k) := Rd.own ho (rdTo_len _ _).symm
        by_cases hck : Clk (rdTo s.data.toList k)
        · go_wp2_with fail
          refine (refEncode_yes _ _ wr hrd hck).mono ?_
          rintro e w2 ⟨rfl, hb2⟩
          have HO : Hid (w2.ownsRow w.heap.size 183 2 (.slice a4 k c4) k (cellsE (rdTo s.data.toList k))) := own_below ho hb2
          have hb3 := hb.trans (hb2.mono hsz)
          have HC : Hid (Clk (rdTo s.data.toList k)) := hck
          clear ho ho' hrd hck hb2
          by_cases heq : strOfNums (encL (rdTo s.data.toList k)) = s
          · have HD := dec_of HC.out heq
            have HDD : Hid (Dec s.data.toList ∧ k = hd s.data.toList) := HD
            rw [heq]
            clear heq HD
            go_wp2
            go_ret2
            refine ⟨.inr ⟨HDD.out.1, _, rfl, ?_⟩, hb3⟩
            rw [← HDD.out.2]
            exact HO.out
          · have HND : Hid (¬ Dec s.data.toList) := fun d => heq (by
              have h8 : hd s.data.toList ≤ 8 := by have := d.2.2.1; rw [rdTo_len] at this; exact this
              have h1 := d.2.1
              rw [toList_size] at h1
              have h2 := hp.out
              have h3 : k = hd s.data.toList := by
                have := hps.out
                by_cases h0 : 0 < k
                · have := this h0; omega
                · omega
              rw [h3]
              exact enc_dec s d)
            obtain ⟨t, ht⟩ : ∃ t, strOfNums (encL (rdTo s.data.toList k)) = t := ⟨_, rfl⟩
            have hbeq : (t.toList == s.toList) = false := by
              rw [← ht, Lib.toList_data, Lib.toList_data, beq_eq_false_iff_ne]
              intro h; exact heq (WideShapes.bytes_inj h)
            rw [ht]
            clear ht heq
            go_wp2
            go_ret2
            exact ⟨.inl ⟨HND.out, rfl⟩, hb3⟩
        · go_wp2_with fail
          refine (refEncode_no _ _ wr hrd hck).mono ?_
          rintro e w2 ⟨rfl, hb2⟩
          have HND : Hid (¬ Dec s.data.toList) := fun d => hck (by
              have h8 : hd s.data.toList ≤ 8 := by have := d.2.2.1; rw [rdTo_len] at this; exact this
              have h1 := d.2.1
              rw [toList_size] at h1
              have h2 := hp.out
              have h3 : k = hd s.data.toList := by
                have := hps.out
                by_cases h0 : 0 < k
                · have := this h0; omega
                · omega
              rw [h3]
              exact d.2.2)
          have hb3 := hb.trans (hb2.mono hsz)
          clear ho ho' hrd hck hb2
          go_wp2
          go_ret2
          exact ⟨.inl ⟨HND.out, rfl⟩, hb3⟩
end Go.Proofs.YtilkdeghknjjhaaGreatDoor
