/- The walk of Joined. -/
import Derived.Test.YtkiipmdplpcfeaaN
import Derived.Test.YtkiipmdplpcfeaaO
import Derived.WalkKit
import Derived.WalkSpells
import Derived.WalkLawsBesides
import Derived.Lib.Strings
namespace Go.Proofs.Ytkiipmdplpcfeaa
open Go.RowKit M
set_option linter.unusedVariables false

theorem clk_us {l : List (Int × Int)} (h : Clk l) : US l := ((clk_iff l).1 h).2
theorem clk_jn {l m : List (Int × Int)} (hl : Clk l) (hm : Clk m) (h : (jn [l, m]).length ≤ 8) : Clk (jn [l, m]) :=
  (clk_iff _).2 ⟨h, US_jn (us2 (clk_us hl) (clk_us hm))⟩
theorem str_ne {X : List (Int × Int)} (h : Clk X) : (strOfNums (encL X)).toList.isEmpty = false := by
  rw [Lib.toList_data, str_enc]
  have := (dec_enc h).1
  cases hl : toB (encL X) with
  | nil => exact absurd hl this
  | cons a r => rfl

theorem Covers_dec (v : Value) (l : List (Int × Int)) (n c : Int) (w : World) (hrd : Rd w v l) (hl : Clk l) (hd : Dot n c) :
    Calls Try.prog 14 #[v, .int .i64 n, .int .i64 c] w fun e w' => e = .returned (.bool (decide (c ≤ cS l n))) ∧ Below w.heap.size w w' :=
  (Covers_any v l n c w hrd).mono fun e w' ⟨r, he, hr, hb⟩ => ⟨by
    rw [he]; congr 2
    rw [Bool.eq_iff_iff, hr, decide_eq_true_iff]
    exact ⟨fun h => h.2.2, fun h => ⟨hl, hd, h⟩⟩, hb⟩
theorem str_eqs {X Y : List (Int × Int)} (hx : Clk X) (hy : Clk Y) : ((strOfNums (encL X)).toList == (strOfNums (encL Y)).toList) = decide (X = Y) := by
  rw [Lib.toList_data, Lib.toList_data, Bool.eq_iff_iff, beq_iff_eq, decide_eq_true_iff]
  constructor
  · intro h; exact str_inj hx hy (WideShapes.bytes_inj h)
  · intro h; rw [h]
theorem Join_ok (v u : Value) (l m : List (Int × Int)) (w : World) (hv : Rd w v l) (hu : Rd w u m) (hl : Clk l) (hm : Clk m) (h8 : (jn [l, m]).length ≤ 8) :
    Calls Try.prog 10 #[v, u] w fun e w' => ∃ r, e = .returned (.tuple #[r, .int .i64 0]) ∧ Rd w' r (jn [l, m]) ∧ Below w.heap.size w w' :=
  (Join_any v u l m w hv hu).mono fun e w' ⟨hj, hb⟩ => by
    rcases hj with ⟨h | h, _⟩ | ⟨_, _, h, _⟩ | ⟨_, _, _, r, he, ho⟩
    · exact absurd hl h
    · exact absurd hm h
    · exact absurd h (by omega)
    · exact ⟨r, he, Rd.own ho rfl, hb⟩
theorem Join_many (v u : Value) (l m : List (Int × Int)) (w : World) (hv : Rd w v l) (hu : Rd w u m) (hl : Clk l) (hm : Clk m) (h8 : 8 < (jn [l, m]).length) :
    Calls Try.prog 10 #[v, u] w fun e w' => e = .returned (.tuple #[.slice none 0 0, .int .i64 5]) ∧ Below w.heap.size w w' :=
  (Join_any v u l m w hv hu).mono fun e w' ⟨hj, hb⟩ => by
    rcases hj with ⟨h | h, _⟩ | ⟨_, _, h, he⟩ | ⟨_, _, h, r, he, ho⟩
    · exact absurd hl h
    · exact absurd hm h
    · exact ⟨he, hb⟩
    · exact absurd h8 (by omega)
theorem same_yes (v u : Value) (l m : List (Int × Int)) (w : World) (hv : Rd w v l) (hu : Rd w u m) (h : l = m) :
    Calls Try.prog 32 #[v, u] w fun e w' => e = .returned (.bool true) ∧ Below w.heap.size w w' :=
  (sameClock32_any v u l m w hv hu).mono fun e w' ⟨r, he, hr, hb⟩ => ⟨by rw [he, hr.2 h], hb⟩
theorem same_dec (v u : Value) (l m : List (Int × Int)) (w : World) (hv : Rd w v l) (hu : Rd w u m) :
    Calls Try.prog 32 #[v, u] w fun e w' => e = .returned (.bool (decide (l = m))) ∧ Below w.heap.size w w' :=
  (sameClock32_any v u l m w hv hu).mono fun e w' ⟨r, he, hr, hb⟩ => ⟨by
    rw [he]; congr 2
    rw [Bool.eq_iff_iff, hr, decide_eq_true_iff], hb⟩
theorem Decode_enc (X : List (Int × Int)) (hX : Clk X) (w : World) :
    Calls Try.prog 18 #[.string (strOfNums (encL X))] w fun e w' => ∃ v, e = .returned (.tuple #[v, .int .i64 0]) ∧ Rd w' v X ∧ Below w.heap.size w w' := by
  refine (Decode_any _ w (by rw [str_size hX]; have := hX.1; unfold maxLen; omega)).mono fun e w' ⟨hb, h⟩ => ?_
  rw [str_enc] at h
  rcases h with ⟨h, _⟩ | ⟨_, v, he, ho⟩
  · exact absurd (dec_enc hX) h
  · rw [rdTo_enc hX] at ho
    exact ⟨v, he, Rd.own ho (hd_enc hX), hb⟩

set_option maxRecDepth 40000 in
set_option maxHeartbeats 2000000 in
theorem Joined_any (a b c d e f node count : Int) (w : World) (ha0 : -9223372036854775808 ≤ a) (ha1 : a ≤ 9223372036854775807) (hb0 : -9223372036854775808 ≤ b) (hb1 : b ≤ 9223372036854775807) (hc0 : -9223372036854775808 ≤ c) (hc1 : c ≤ 9223372036854775807) (hd0 : -9223372036854775808 ≤ d) (hd1 : d ≤ 9223372036854775807) (he0 : -9223372036854775808 ≤ e) (he1 : e ≤ 9223372036854775807) (hf0 : -9223372036854775808 ≤ f) (hf1 : f ≤ 9223372036854775807) (hnode0 : -9223372036854775808 ≤ node) (hnode1 : node ≤ 9223372036854775807) (hcount0 : -9223372036854775808 ≤ count) (hcount1 : count ≤ 9223372036854775807) :
    Calls Try.prog 5 #[.int .i64 a, .int .i64 b, .int .i64 c, .int .i64 d, .int .i64 e, .int .i64 f, .int .i64 node, .int .i64 count] w fun e w' => e = .returned (.bool true) ∧ Below w.heap.size w w' := by
  go_enter Try.func5, Try.ntmps5
  go_wp2_with fail
  refine (clock_any a b w hb0 hb1).mono ?_
  rintro e1 w1 ⟨vx, X, rfl, kX, ox, g1⟩
  have rx := Rd.own ox rfl
  have hX : Hid (Clk X) := kX
  clear ox kX
  go_wp2_with fail
  refine (clock_any c d w1 hd0 hd1).mono ?_
  rintro e1 w2 ⟨vy, Y, rfl, kY, oy, g2⟩
  have ry := Rd.own oy rfl
  have rx := rx.below g2
  have g := g1.trans (g2.mono g1.size)
  have hY : Hid (Clk Y) := kY
  clear oy kY g1 g2
  go_wp2_with fail
  refine (clock_any e f w2 hf0 hf1).mono ?_
  rintro e1 w3 ⟨vz, Z, rfl, kZ, oz, g2⟩
  have rz := Rd.own oz rfl
  have rx := rx.below g2
  have ry := ry.below g2
  have g := g.trans (g2.mono g.size)
  have hZ : Hid (Clk Z) := kZ
  clear oz kZ g2
  -- BRANCHES
  by_cases h8 : (jn [X, Y]).length ≤ 8
  · have h8 : Hid ((jn [X, Y]).length ≤ 8) := h8
    go_wp2_with fail
    refine (Join_ok vx vy X Y _ rx ry hX.out hY.out h8.out).mono ?_
    rintro e1 w5 ⟨vl, rfl, rl, g2⟩
    have rx := rx.below g2
    have ry := ry.below g2
    have rz := rz.below g2
    have g := g.trans (g2.mono g.size)
    clear g2
    go_wp2_with fail
    refine (Join_ok vy vx Y X _ ry rx hY.out hX.out (by rw [jn_comm (clk_us hY.out) (clk_us hX.out)]; exact h8.out)).mono ?_
    rintro e1 w6 ⟨vm, rfl, rm, g2⟩
    have rx := rx.below g2
    have ry := ry.below g2
    have rz := rz.below g2
    have rl := rl.below g2
    have g := g.trans (g2.mono g.size)
    clear g2
    go_wp2_with fail
    refine (Join_ok vx vx X X _ rx rx hX.out hX.out (by rw [jn_self (clk_us hX.out)]; exact hX.out.1)).mono ?_
    rintro e1 w7 ⟨vo, rfl, ro, g2⟩
    have rx := rx.below g2
    have ry := ry.below g2
    have rz := rz.below g2
    have rl := rl.below g2
    have rm := rm.below g2
    have g := g.trans (g2.mono g.size)
    clear g2
    go_wp2_with fail
    refine (same_yes vo vx _ X _ ro rx (jn_self (clk_us hX.out))).mono ?_
    rintro e1 w8 ⟨rfl, g2⟩
    have rx := rx.below g2
    have ry := ry.below g2
    have rz := rz.below g2
    have rl := rl.below g2
    have rm := rm.below g2
    have g := g.trans (g2.mono g.size)
    clear g2
    clear ro
    go_wp2_with fail
    refine (encoded_yes vx X _ rx hX.out).mono ?_
    rintro e1 w9 ⟨rfl, g2⟩
    have rx := rx.below g2
    have ry := ry.below g2
    have rz := rz.below g2
    have rl := rl.below g2
    have rm := rm.below g2
    have g := g.trans (g2.mono g.size)
    clear g2
    go_wp2_with fail
    refine (encoded_yes vy Y _ ry hY.out).mono ?_
    rintro e1 w10 ⟨rfl, g2⟩
    have rx := rx.below g2
    have ry := ry.below g2
    have rz := rz.below g2
    have rl := rl.below g2
    have rm := rm.below g2
    have g := g.trans (g2.mono g.size)
    clear g2
    go_wp2_with fail
    refine (Decode_enc X hX.out _).mono ?_
    rintro e1 w11 ⟨vu, rfl, ru, g2⟩
    have rx := rx.below g2
    have ry := ry.below g2
    have rz := rz.below g2
    have rl := rl.below g2
    have rm := rm.below g2
    have g := g.trans (g2.mono g.size)
    clear g2
    go_wp2_with fail
    refine (same_yes vu vx X X _ ru rx rfl).mono ?_
    rintro e1 w12 ⟨rfl, g2⟩
    have rx := rx.below g2
    have ry := ry.below g2
    have rz := rz.below g2
    have rl := rl.below g2
    have rm := rm.below g2
    have g := g.trans (g2.mono g.size)
    clear g2
    clear ru
    go_wp2_with fail
    refine (same_dec vx vy X Y _ rx ry).mono ?_
    rintro e1 w13 ⟨rfl, g2⟩
    have rx := rx.below g2
    have ry := ry.below g2
    have rz := rz.below g2
    have rl := rl.below g2
    have rm := rm.below g2
    have g := g.trans (g2.mono g.size)
    clear g2
    have he := str_ne hX.out
    have hq : ((strOfNums (encL X)).toList == (strOfNums (encL Y)).toList) = decide (X = Y) := str_eqs hX.out hY.out
    obtain ⟨S, hS⟩ : ∃ S, strOfNums (encL X) = S := ⟨_, rfl⟩
    obtain ⟨U, hU⟩ : ∃ S, strOfNums (encL Y) = S := ⟨_, rfl⟩
    obtain ⟨B, hB⟩ : ∃ B, decide (X = Y) = B := ⟨_, rfl⟩
    rw [hS] at he hq
    rw [hU, hB] at hq
    rw [hS, hU, hB]
    clear hS hU hB
    go_wp2_with fail
    clear he hq
    refine (pick_any node 16 _ hnode0 hnode1 (by decide) (by decide)).mono ?_
    rintro e1 w14 ⟨rfl, rfl⟩
    have hn := pk_lt node 16 (by decide)
    obtain ⟨n, hn2⟩ : ∃ n : Nat, pk node 16 = n := ⟨(pk node 16).toNat, by omega⟩
    rw [hn2] at hn
    rw [hn2]
    have hn3 : n < 16 := by omega
    clear hn hn2
    go_wp2_with fail
    refine (pick_any count 8 _ hcount0 hcount1 (by decide) (by decide)).mono ?_
    rintro e1 w15 ⟨rfl, rfl⟩
    have hk := pk_lt count 8 (by decide)
    obtain ⟨k, hk2⟩ : ∃ k : Nat, pk count 8 = k := ⟨(pk count 8).toNat, by omega⟩
    rw [hk2] at hk
    rw [hk2]
    have hk3 : k < 8 := by omega
    clear hk hk2
    have hd : Dot (n : Int) (1 + (k : Int)) := ⟨by omega, by omega, by omega, by omega⟩
    have hD : Hid (Dot (n : Int) (1 + (k : Int))) := hd
    clear hd
    go_wp2_with fail
    refine (Covers_dec vx X n (1 + (k : Int)) _ rx hX.out hD.out).mono ?_
    rintro e1 w16 ⟨rfl, g2⟩
    have rx := rx.below g2
    have ry := ry.below g2
    have rz := rz.below g2
    have rl := rl.below g2
    have rm := rm.below g2
    have g := g.trans (g2.mono g.size)
    clear g2
    go_wp2_with fail
    refine (Covers_dec vy Y n (1 + (k : Int)) _ ry hY.out hD.out).mono ?_
    rintro e1 w17 ⟨rfl, g2⟩
    have rx := rx.below g2
    have ry := ry.below g2
    have rz := rz.below g2
    have rl := rl.below g2
    have rm := rm.below g2
    have g := g.trans (g2.mono g.size)
    clear g2
    go_wp2_with fail
    refine (Covers_dec vl (jn [X, Y]) n (1 + (k : Int)) _ rl (clk_jn hX.out hY.out h8.out) hD.out).mono ?_
    rintro e1 w18 ⟨rfl, g2⟩
    have rx := rx.below g2
    have ry := ry.below g2
    have rz := rz.below g2
    have rl := rl.below g2
    have rm := rm.below g2
    have g := g.trans (g2.mono g.size)
    clear g2
    go_wp2_with fail
    refine (same_yes vl vm _ _ _ rl rm (jn_comm (clk_us hX.out) (clk_us hY.out))).mono ?_
    rintro e1 w19 ⟨rfl, g2⟩
    have rx := rx.below g2
    have ry := ry.below g2
    have rz := rz.below g2
    have rl := rl.below g2
    have rm := rm.below g2
    have g := g.trans (g2.mono g.size)
    clear g2
    clear rm
    have hor : decide (1 + (k : Int) ≤ cS (jn [X, Y]) n) = (decide (1 + (k : Int) ≤ cS X n) || decide (1 + (k : Int) ≤ cS Y n)) := by
      rw [cS_jn2 (clk_us hX.out) (clk_us hY.out) n hn3, Bool.eq_iff_iff]; simp; omega
    rw [hor]
    obtain ⟨P, hP⟩ : ∃ P, decide (1 + (k : Int) ≤ cS X n) = P := ⟨_, rfl⟩
    obtain ⟨Q, hQ⟩ : ∃ P, decide (1 + (k : Int) ≤ cS Y n) = P := ⟨_, rfl⟩
    rw [hP, hQ]
    clear hor hP hQ
    have kl : Hid (Clk (jn [X, Y])) := clk_jn hX.out hY.out h8.out
    by_cases h9 : (jn [jn [X, Y], Z]).length ≤ 8
    · have h9 : Hid ((jn [jn [X, Y], Z]).length ≤ 8) := h9
      go_wp2_with fail
      refine (Join_ok vl vz (jn [X, Y]) Z _ rl rz kl.out hZ.out h9.out).mono ?_
      rintro e1 w20 ⟨vf, rfl, rf, g2⟩
      have rx := rx.below g2
      have ry := ry.below g2
      have rz := rz.below g2
      have g := g.trans (g2.mono g.size)
      clear g2
      by_cases h10 : (jn [Y, Z]).length ≤ 8
      · have h10 : Hid ((jn [Y, Z]).length ≤ 8) := h10
        go_wp2_with fail
        refine (Join_ok vy vz Y Z _ ry rz hY.out hZ.out h10.out).mono ?_
        rintro e1 w21 ⟨vr, rfl, rr, g2⟩
        have rx := rx.below g2
        have ry := ry.below g2
        have rz := rz.below g2
        have rf := rf.below g2
        have g := g.trans (g2.mono g.size)
        clear g2
        cases P <;> cases Q
        all_goals
          go_wp2_with fail
          refine (Join_ok vx vr X (jn [Y, Z]) _ rx rr hX.out (clk_jn hY.out hZ.out h10.out) (by rw [← jn_assoc (clk_us hX.out) (clk_us hY.out) (clk_us hZ.out)]; exact h9.out)).mono ?_
          rintro e1 w22 ⟨vs, rfl, rs, g2⟩
          have rf := rf.below g2
          have g := g.trans (g2.mono g.size)
          clear g2
          go_wp2_with fail
          refine (same_yes vf vs _ _ _ rf rs (jn_assoc (clk_us hX.out) (clk_us hY.out) (clk_us hZ.out))).mono ?_
          rintro e1 w23 ⟨rfl, g2⟩
          have g := g.trans (g2.mono g.size)
          clear g2
          go_wp2
          go_ret
          exact ⟨rfl, g⟩
      · have h10 : Hid (8 < (jn [Y, Z]).length) := by show _ < _; omega
        go_wp2_with fail
        refine (Join_many vy vz Y Z _ ry rz hY.out hZ.out h10.out).mono ?_
        rintro e1 w21 ⟨rfl, g2⟩
        have rx := rx.below g2
        have ry := ry.below g2
        have rz := rz.below g2
        have rf := rf.below g2
        have g := g.trans (g2.mono g.size)
        clear g2
        cases P <;> cases Q
        all_goals
          go_wp2
          go_ret
          exact ⟨rfl, g⟩
    · have h9 : Hid (8 < (jn [jn [X, Y], Z]).length) := by show _ < _; omega
      go_wp2_with fail
      refine (Join_many vl vz (jn [X, Y]) Z _ rl rz kl.out hZ.out h9.out).mono ?_
      rintro e1 w20 ⟨rfl, g2⟩
      have rx := rx.below g2
      have ry := ry.below g2
      have rz := rz.below g2
      have g := g.trans (g2.mono g.size)
      clear g2
      by_cases h10 : (jn [Y, Z]).length ≤ 8
      · have h10 : Hid ((jn [Y, Z]).length ≤ 8) := h10
        go_wp2_with fail
        refine (Join_ok vy vz Y Z _ ry rz hY.out hZ.out h10.out).mono ?_
        rintro e1 w21 ⟨vr, rfl, rr, g2⟩
        have rx := rx.below g2
        have ry := ry.below g2
        have rz := rz.below g2
        have g := g.trans (g2.mono g.size)
        clear g2
        cases P <;> cases Q
        all_goals
          go_wp2
          go_ret
          exact ⟨rfl, g⟩
      · have h10 : Hid (8 < (jn [Y, Z]).length) := by show _ < _; omega
        go_wp2_with fail
        refine (Join_many vy vz Y Z _ ry rz hY.out hZ.out h10.out).mono ?_
        rintro e1 w21 ⟨rfl, g2⟩
        have rx := rx.below g2
        have ry := ry.below g2
        have rz := rz.below g2
        have g := g.trans (g2.mono g.size)
        clear g2
        cases P <;> cases Q
        all_goals
          go_wp2
          go_ret
          exact ⟨rfl, g⟩
  · have h8 : Hid (8 < (jn [X, Y]).length) := by show _ < _; omega
    go_wp2_with fail
    refine (Join_many vx vy X Y _ rx ry hX.out hY.out h8.out).mono ?_
    rintro e1 w5 ⟨rfl, g2⟩
    have rx := rx.below g2
    have ry := ry.below g2
    have rz := rz.below g2
    have g := g.trans (g2.mono g.size)
    clear g2
    go_wp2_with fail
    refine (Join_many vy vx Y X _ ry rx hY.out hX.out (by rw [jn_comm (clk_us hY.out) (clk_us hX.out)]; exact h8.out)).mono ?_
    rintro e1 w6 ⟨rfl, g2⟩
    have rx := rx.below g2
    have ry := ry.below g2
    have rz := rz.below g2
    have g := g.trans (g2.mono g.size)
    clear g2
    go_wp2_with fail
    refine (Join_ok vx vx X X _ rx rx hX.out hX.out (by rw [jn_self (clk_us hX.out)]; exact hX.out.1)).mono ?_
    rintro e1 w7 ⟨vo, rfl, ro, g2⟩
    have rx := rx.below g2
    have ry := ry.below g2
    have rz := rz.below g2
    have g := g.trans (g2.mono g.size)
    clear g2
    go_wp2_with fail
    refine (same_yes vo vx _ X _ ro rx (jn_self (clk_us hX.out))).mono ?_
    rintro e1 w8 ⟨rfl, g2⟩
    have rx := rx.below g2
    have ry := ry.below g2
    have rz := rz.below g2
    have g := g.trans (g2.mono g.size)
    clear g2
    clear ro
    go_wp2_with fail
    refine (encoded_yes vx X _ rx hX.out).mono ?_
    rintro e1 w9 ⟨rfl, g2⟩
    have rx := rx.below g2
    have ry := ry.below g2
    have rz := rz.below g2
    have g := g.trans (g2.mono g.size)
    clear g2
    go_wp2_with fail
    refine (encoded_yes vy Y _ ry hY.out).mono ?_
    rintro e1 w10 ⟨rfl, g2⟩
    have rx := rx.below g2
    have ry := ry.below g2
    have rz := rz.below g2
    have g := g.trans (g2.mono g.size)
    clear g2
    go_wp2_with fail
    refine (Decode_enc X hX.out _).mono ?_
    rintro e1 w11 ⟨vu, rfl, ru, g2⟩
    have rx := rx.below g2
    have ry := ry.below g2
    have rz := rz.below g2
    have g := g.trans (g2.mono g.size)
    clear g2
    go_wp2_with fail
    refine (same_yes vu vx X X _ ru rx rfl).mono ?_
    rintro e1 w12 ⟨rfl, g2⟩
    have rx := rx.below g2
    have ry := ry.below g2
    have rz := rz.below g2
    have g := g.trans (g2.mono g.size)
    clear g2
    clear ru
    go_wp2_with fail
    refine (same_dec vx vy X Y _ rx ry).mono ?_
    rintro e1 w13 ⟨rfl, g2⟩
    have rx := rx.below g2
    have ry := ry.below g2
    have rz := rz.below g2
    have g := g.trans (g2.mono g.size)
    clear g2
    have he := str_ne hX.out
    have hq : ((strOfNums (encL X)).toList == (strOfNums (encL Y)).toList) = decide (X = Y) := str_eqs hX.out hY.out
    obtain ⟨S, hS⟩ : ∃ S, strOfNums (encL X) = S := ⟨_, rfl⟩
    obtain ⟨U, hU⟩ : ∃ S, strOfNums (encL Y) = S := ⟨_, rfl⟩
    obtain ⟨B, hB⟩ : ∃ B, decide (X = Y) = B := ⟨_, rfl⟩
    rw [hS] at he hq
    rw [hU, hB] at hq
    rw [hS, hU, hB]
    clear hS hU hB
    go_wp2
    go_ret
    exact ⟨rfl, g⟩
end Go.Proofs.Ytkiipmdplpcfeaa
