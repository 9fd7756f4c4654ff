/- Prefix, walked. -/
import Derived.Test.YtilkdeghknjjhaaGreatDoorPart54
import Derived.Deep.RegionHeld3
namespace Go.Proofs.YtilkdeghknjjhaaGreatDoor
open Go.RowKit M Go.Maps
set_option linter.unusedVariables false

/-- So many are held behind so many puts. -/
def hP (ev : Int) (n : Nat) : Nat := if ev = 0 then 0 else n - n % ev.toNat
theorem heldE_hP {ev : Int} (h0 : 0 ≤ ev) (h3 : ev ≤ 3) (n : Nat) : heldE ev n (hP ev n) = hP ev (n + 1) := by
  have : ev = 0 ∨ ev = 1 ∨ ev = 2 ∨ ev = 3 := by omega
  unfold heldE
  rcases this with rfl | rfl | rfl | rfl
  · simp [hP]
  · show (if (1 : Int) = 0 ∨ (n : Int) + 1 - ((n - n % 1 : Nat) : Int) < 1 then (n - n % 1) else n + 1) = (n + 1) - (n + 1) % 1
    split <;> omega
  · show (if (2 : Int) = 0 ∨ (n : Int) + 1 - ((n - n % 2 : Nat) : Int) < 2 then (n - n % 2) else n + 1) = (n + 1) - (n + 1) % 2
    split <;> omega
  · show (if (3 : Int) = 0 ∨ (n : Int) + 1 - ((n - n % 3 : Nat) : Int) < 3 then (n - n % 3) else n + 1) = (n + 1) - (n + 1) % 3
    split <;> omega
theorem hP_eq {ev : Int} (h0 : 0 < ev) (h3 : ev ≤ 3) (n : Nat) : ((hP ev n : Nat) : Int) = (n : Int) - (n : Int).tmod ev := by
  have : ev = 1 ∨ ev = 2 ∨ ev = 3 := by omega
  rw [Int.tmod_eq_emod_of_nonneg (by omega)]
  unfold hP
  rcases this with rfl | rfl | rfl
  · simp; omega
  · rw [if_neg (by omega)]
    have e : (2 : Int).toNat = 2 := rfl
    rw [e]; omega
  · rw [if_neg (by omega)]
    have e : (3 : Int).toNat = 3 := rfl
    rw [e]; omega
theorem jd_new (c : Int) : JD (Dk.new c) [] 0 0 false true 0 :=
  ⟨0, fun _ => 0, fun _ => [], fun _ => [], ⟨Nat.le_refl _, Nat.le_refl _, List.Pairwise.nil, List.Pairwise.nil, fun x => ⟨fun h => by simp [Dk.new] at h, fun ⟨i, h1, h2, _⟩ => by omega⟩, fun x => ⟨fun h => by simp [Dk.new] at h, fun ⟨i, h1, h2, _⟩ => by omega⟩, rfl, fun i j h1 h2 => by omega, fun i h1 h2 => by omega, fun i h1 h2 => by omega, fun i h1 h2 => by omega, fun i h1 h2 => by omega, fun i h1 h2 => by omega, fun i h1 h2 => by omega⟩, rfl, ⟨0, Nat.zero_le _, fun _ => rfl, fun h => by omega⟩, fun h => by omega, fun _ h => by omega⟩

set_option maxRecDepth 20000 in
set_option maxHeartbeats 1600000 in
theorem prefix_any (raw many : Int) (v : Value) (keep : List Int) (w : World) (h1 : R64 raw) (h2 : R64 many) (hk : RdI w v keep) (hkz : InZ (fun k => k < w.heap.size) v) (hk64 : In64 keep) (hkl : keep.length ≤ 1000000000000000) (hvs : Vars w) :
    Calls Tryz.prog 8 #[.int .i64 raw, .int .i64 many, v] w fun e w' => e = .returned (.bool true) ∧ Below w.heap.size w w' := by
  obtain ⟨r1, r2, r3, r4, r5, r6⟩ := opt_rng raw
  have HOp : Hid (Calls Tryz.prog 22 #[.int .i64 raw] w fun e w' => e = .returned (.agg #[.int .i64 (optN raw), .int .i64 (optE raw), .int .i64 (optR raw)]) ∧ Below w.heap.size w w') := options_any raw w h1
  obtain ⟨nd, hnd⟩ : ∃ x, optN raw = x := ⟨_, rfl⟩
  obtain ⟨ev, hev⟩ : ∃ x, optE raw = x := ⟨_, rfl⟩
  obtain ⟨R, hR⟩ : ∃ x : Nat, optR raw = (x : Int) := ⟨(optR raw).toNat, by omega⟩
  rw [hnd] at r1 r2 HOp
  rw [hev] at r3 r4 HOp
  rw [hR] at r5 r6 HOp
  have hopt : optOK nd ev R = true := by unfold optOK; simp; omega
  have HPi : Hid (∀ X, Calls Tryz.prog 24 #[.int .i64 many, .int .i64 60] X fun e w' => e = .returned (.int .i64 (pickF many 60)) ∧ w' = X) := fun X => kpick_any many 60 X h2.1 h2.2 (by omega) (by omega)
  have hpr := pickF_rng many 60 (by omega)
  obtain ⟨P, hP0⟩ : ∃ x : Nat, pickF many 60 = (x : Int) := ⟨(pickF many 60).toNat, by omega⟩
  rw [hP0] at HPi hpr
  have hP1 : P < 60 := by omega
  have HNew : Hid (∀ X, Calls Tryz.prog 23 #[.int .i64 1152921504606846976] X fun e w' => e = .returned (.pointer (some ⟨X.heap.size, 0, none⟩)) ∧ DiskAt (fun k => X.heap.size ≤ k) w' X.heap.size (Dk.new 1152921504606846976) ∧ Below X.heap.size X w') := fun X => New_any (fun k => X.heap.size ≤ k) 1152921504606846976 X (fun k hk => hk)
  have HAg : Hid (∀ X q B, B ≤ X.heap.size → Vars X → DiskAt (fun k => B ≤ k) X q (Dk.new 1152921504606846976) → Calls Tryz.prog 20 #[.pointer (some ⟨q, 0, none⟩), .agg #[.int .i64 nd, .int .i64 ev, .int .i64 R]] X fun e w' => ∃ s q2, e = .returned (.tuple #[.pointer (some ⟨s, 0, none⟩), .pointer (some ⟨q2, 0, none⟩)]) ∧ PX B w' s q2 nd ev (msP nd 0) (hP ev 0) (5 * (60 - 0) + 7) (10 + 2 * 0) ∧ Below X.heap.size X w') := fun X q B hB hV hD => by
    have hbn : ∀ k, k ≤ 1000000000 → (Dk.new 1152921504606846976).Bud k := fun k hk => ⟨by show (0 : Int) + _ ≤ _; omega, by show 0 + _ ≤ _; omega, by show 0 + _ ≤ _; omega, by show 0 + _ ≤ _; omega⟩
    refine (again_sound _ q 10 (Dk.new 1152921504606846976) nd ev R [] 0 0 false true 0 X hD hV (Dk.WF.new _ (by omega) (by omega)) (hbn 2 (by omega)) ⟨by show (-1 : Int) < 0; omega, by show (-1 : Int) < 0; omega⟩ (jd_new _) (Nat.le_refl _) trivial hopt (by show 0 ≤ _; omega) (by show 0 + 0 ≤ _; omega) (by omega)).mono ?_
    intro e w' hE
    have h0 : hP ev 0 = 0 := by unfold hP; split <;> simp
    rw [h0]
    exact hE.px rfl (hbn _ (by omega)) hB
  have HPut : Hid (∀ B X s d i, i < 60 → PX B X s d nd ev (msP nd i) (hP ev i) (5 * (60 - i) + 7) (10 + 2 * i) → Calls Tryz.prog 25 #[.pointer (some ⟨s, 0, none⟩), .string (kT i), .string (vT i), .string ⟨#[0]⟩] X fun e w' => e = .returned (.int .i64 0) ∧ PX B w' s d nd ev (msP nd (i + 1)) (hP ev (i + 1)) (5 * (60 - (i + 1)) + 7) (10 + 2 * (i + 1)) ∧ Below B X w') := fun B X s d i hi hX => by
    have hb : 5 * (60 - i) + 7 = (5 * (60 - (i + 1)) + 7) + 5 := by omega
    rw [hb] at hX
    have hnil : runMt zM (msP nd i) (kT i) = Se.nil := (runP r1 r2 i (by omega)).2 _ fun q hq e => by have := kT_inj (by omega) (by omega) e; omega
    refine (hX.put (by omega) (kT i) (vT i) (kT_ok i (by omega)) (by have := vT_size i (by omega); omega) hnil r1 r2 (by rw [msP_len]; omega)).mono ?_
    rintro e w' ⟨he, hp, hb2⟩
    refine ⟨he, ?_, hb2⟩
    rw [msP_len, heldE_hP r3 r4] at hp
    rw [msP_succ]
    exact hp
  have HAg2 : Hid (∀ X q B Z' D' ms' k' sz' cut' hd', B ≤ X.heap.size → DiskAt Z' X q D' → Vars X → D'.WF → D'.Sound → D'.cap = 1152921504606846976 → D'.Bud (900000000 + (5 * (60 - (P + 1)) + 7)) → JD D' ms' k' sz' cut' true ms'.length → ms' <+: msP nd (P + 1) → hd' ≤ ms'.length → GoodM nd zM 0 ms' → D'.files.length ≤ 100000000 →
      Calls Tryz.prog 20 #[.pointer (some ⟨q, 0, none⟩), .agg #[.int .i64 nd, .int .i64 ev, .int .i64 R]] X fun e w' => ∃ s q2 k, hd' ≤ k ∧ k ≤ P + 1 ∧ e = .returned (.tuple #[.pointer (some ⟨s, 0, none⟩), .pointer (some ⟨q2, 0, none⟩)]) ∧ PX B w' s q2 nd ev (msP nd k) k 5 200000000 ∧ Below X.heap.size X w') := fun X q B Z' D' ms' k' sz' cut' hd' hB a1 a2 a3 a4 a5 a6 a7 a8 a9 a10 a11 => by
    have hkf := a7.kf
    obtain ⟨m1, m2⟩ := msP_prefix a8
    refine (again_sound Z' q 200000000 D' nd ev R ms' k' sz' cut' true ms'.length X a1 a2 a3 (a6.mono (by omega)) a4 a7 (Nat.le_refl _) a10 hopt a11 (by omega) (by omega)).mono ?_
    intro e w' hE
    obtain ⟨s, q2, b1, b2, b3⟩ := hE.px (bud := 5) (B := B) a5 (a6.mono (by omega)) hB
    refine ⟨s, q2, ms'.length, a9, m2, b1, ?_, b3⟩
    rw [← m1]; exact b2
  have HKv : Hid (RdI w v keep ∧ InZ (fun k => k < w.heap.size) v ∧ Vars w) := ⟨hk, hkz, hvs⟩
  clear hk hkz hvs hnd hev hR hP0
  have ho1 : Tryz.prog.info? 23 = Tryz.prog.info? 23 := rfl
  clear ho1
  go_enter Tryz.func8, Tryz.ntmps8
  go_upto_region 1 with (fail)
  go_wp2_with fail
  refine HOp.out.mono ?_
  rintro e w1 ⟨rfl, hb1⟩
  clear HOp
  go_wp2_with (first
    | (refine wpList_store_row rfl 23 _ _ rfl w1.heap.size #[.int .i64 nd, .int .i64 ev, .int .i64 R] rfl rfl 23 #[.int .i64 0, .int .i64 0, .int .i64 0] (heap_alloc_new w1 _) infoOpt rfl (by simp [Value.oneCell']) ?_)
    | fail)
  obtain ⟨W, hW, hw0, hWh, hWs⟩ : ∃ W, (w1.alloc (.cells #[.int .i64 0, .int .i64 0, .int .i64 0] 23)).setRow w1.heap.size #[.int .i64 nd, .int .i64 ev, .int .i64 R] = W ∧ Below w.heap.size w W ∧ W.heap[w1.heap.size]? = some (.cells #[.int .i64 nd, .int .i64 ev, .int .i64 R] 23 (0, 0)) ∧ w1.heap.size < W.heap.size :=
    ⟨_, rfl, below_setRow (hb1.alloc hb1.size _) hb1.size _, setRow_heap _ _ _ _ _ _ (heap_alloc_new w1 _), by simp [World.setRow]⟩
  rw [hW]
  obtain ⟨o, ho⟩ : ∃ o, w1.heap.size = o := ⟨_, rfl⟩
  rw [ho] at hWh hWs ⊢
  have HOl : Hid (w.heap.size ≤ o ∧ o < W.heap.size) := ⟨by rw [← ho]; exact hb1.size, hWs⟩
  clear hW ho hb1 hWs
  have HC : Hid (∀ X, Below W.heap.size W X → X.cell? ⟨o, 0, none⟩ = some (.int .i64 nd) ∧ X.cell? ⟨o, 1, none⟩ = some (.int .i64 ev) ∧ X.cell? ⟨o, 2, none⟩ = some (.int .i64 R)) := fun X hX => by
    have hcell : ∀ q, X.cell? ⟨o, q, none⟩ = #[Value.int .i64 nd, .int .i64 ev, .int .i64 R][q]? := fun q => by rw [cell_of_row _ _ _ _ _ _ (heap_later hX hWh)]
    exact ⟨(hcell 0).trans rfl, (hcell 1).trans rfl, (hcell 2).trans rfl⟩
  have HW0 : Hid (Below w.heap.size w W) := hw0
  have HVW : Hid (Vars W) := HKv.out.2.2.below hw0
  clear hw0 hWh
  obtain ⟨c0, c1, c2⟩ := HC.out W (Below.refl _ _)
  have hw0 : Below W.heap.size W W := Below.refl _ _
  go_region_held3 (fun w' => w'.cell? ⟨o, 0, none⟩ = some (.int .i64 nd) ∧ w'.cell? ⟨o, 1, none⟩ = some (.int .i64 ev) ∧ w'.cell? ⟨o, 2, none⟩ = some (.int .i64 R))
    (first | exact ⟨c0, c1, c2⟩ | exact ⟨by assumption, by assumption, by assumption⟩)
    (first
      | (go_at_call 23; refine (HNew.out _).mono ?_; rintro e w2 ⟨rfl, hD2, hb2⟩; have B2 : Below W.heap.size W w2 := belowN (Below.drew hw0) hb2; have D2 : DiskAt (fun k => W.heap.size ≤ k) w2 W.heap.size (Dk.new 1152921504606846976) := hD2; have f0 := cell_later B2 c0; have f1 := cell_later B2 c1; have f2 := cell_later B2 c2)
      | (go_at_call 20; refine (HAg.out _ _ W.heap.size B2.size (HVW.out.below B2) D2).mono ?_; rintro e w3 ⟨s, d, rfl, hp3, hb3⟩; have B3 := belowN B2 hb3; have g0 := cell_later B3 c0; have g1 := cell_later B3 c1; have g2 := cell_later B3 c2))
  have HX3 : Hid (PX W.heap.size w3 s d nd ev (msP nd 0) (hP ev 0) (5 * (60 - 0) + 7) (10 + 2 * 0) ∧ Below W.heap.size W w3) := ⟨hp3, B3⟩
  have HIt : Hid (∀ X (n : Nat), n < 1000 → Vars X → Calls Tryz.prog 26 #[.int .i64 n] X fun e w' => e = .returned (.string (ba (Lib.itoa n))) ∧ Below X.heap.size X w') := fun X n hn hV => Itoa_any n X (by omega) hV
  have HPb : Hid (P < 60) := hP1
  clear HNew HAg hD2 hb2 B2 D2 f0 f1 f2 hp3 hb3 B3 g0 g1 g2 c0 c1 c2 hw0
  go_wp2_with fail
  refine (HPi.out _).mono ?_
  rintro e w4 ⟨rfl, rfl⟩
  have p0 : (0 : Int) ≤ (P : Int) := by omega
  have p1 : (P : Int) < 60 := by omega
  clear hpr hP1
  go_upto_region 7 with (fail)
  go_loopw [11] (fun i wr => ∃ k : Nat, k ≤ P + 1 ∧ i = .int .i64 k ∧ Hid (PX W.heap.size wr s d nd ev (msP nd k) (hP ev k) (5 * (60 - k) + 7) (10 + 2 * k)) ∧ Hid (Below W.heap.size W wr)) (fun i _ => P + 1 - (intOf i).toNat)
  case atStart => exact ⟨0, Nat.zero_le _, rfl, HX3.out.1, HX3.out.2⟩
  case round =>
    obtain ⟨k, hk, rfl, HD, HB⟩ := hrel
    by_cases hlt : k < P + 1
    · have q1 : (k : Int) < 1 + (P : Int) := by omega
      have q0 : (0 : Int) ≤ (k : Int) := by omega
      have hk6 : k < 60 := by have := HPb.out; omega
      have HI1 := HIt.out wr (100 + k) (by omega) (HVW.out.below HB.out)
      have HI2 : Hid (∀ X, Below W.heap.size W X → Calls Tryz.prog 26 #[.int .i64 (k : Int)] X fun e w' => e = .returned (.string (ba (Lib.itoa k))) ∧ Below X.heap.size X w') := fun X hX => HIt.out X k (by omega) (HVW.out.below hX)
      have HPu : Hid (∀ X, Below wr.heap.size wr X → Calls Tryz.prog 25 #[.pointer (some ⟨s, 0, none⟩), .string ((⟨#[107]⟩ : ByteArray) ++ ba (Lib.itoa ((100 + k : Nat) : Int))), .string ((⟨#[118]⟩ : ByteArray) ++ ba (Lib.itoa (k : Int))), .string ⟨#[0]⟩] X fun e w' => e = .returned (.int .i64 0) ∧ PX W.heap.size w' s d nd ev (msP nd (k + 1)) (hP ev (k + 1)) (5 * (60 - (k + 1)) + 7) (10 + 2 * (k + 1)) ∧ Below W.heap.size X w') := fun X hX => HPut.out W.heap.size X s d k hk6 (HD.out.below hX)
      have s1 := itoa_size (n := 100 + k) (by omega)
      have s2 := itoa_size (n := k) (by omega)
      obtain ⟨t1, ht1⟩ : ∃ t, ba (Lib.itoa ((100 + k : Nat) : Int)) = t := ⟨_, rfl⟩
      obtain ⟨t2, ht2⟩ : ∃ t, ba (Lib.itoa (k : Int)) = t := ⟨_, rfl⟩
      have hI1 : Calls Tryz.prog 26 #[.int .i64 (100 + (k : Int))] wr fun e w' => e = .returned (.string t1) ∧ Below wr.heap.size wr w' := by rw [ht1] at HI1; exact HI1
      rw [ht1] at HPu s1
      rw [ht2] at HI2 HPu s2
      have z1 : ¬ 9223372036854775807 < 1 + t1.size := by omega
      have z2 : ¬ 9223372036854775807 < 1 + t2.size := by omega
      have HL0 : Hid (k < P + 1) := hlt
      clear ht1 ht2 HI1 HD hlt hk s1 s2
      have q2 : (k : Int) < 60 := by omega
      go_wp2_with fail
      refine hI1.mono ?_
      rintro e w5 ⟨rfl, b5⟩
      have B5 := belowN HB.out b5
      go_wp2_with fail
      refine (HI2.out _ B5).mono ?_
      rintro e w6 ⟨rfl, b6⟩
      have B6 := belowN b5 b6
      go_wp2_with fail
      refine (HPu.out _ B6).mono ?_
      rintro e w7 ⟨rfl, h7, b7⟩
      have HX : Hid (PX W.heap.size w7 s d nd ev (msP nd (k + 1)) (hP ev (k + 1)) (5 * (60 - (k + 1)) + 7) (10 + 2 * (k + 1)) ∧ Below W.heap.size W w7) := ⟨h7, (belowN HB.out B6).trans b7⟩
      go_wp2
      go_roundw
      case rel => exact ⟨k + 1, HL0.out, by go_num, HX.out.1, HX.out.2⟩
      case measure => have := HL0.out; simp [intOf]; omega
    · have hkP : k = P + 1 := by omega
      subst hkP
      have q1 : ¬ ((P + 1 : Nat) : Int) < 1 + (P : Int) := by omega
      have HRw : Hid (RdI wr v keep ∧ InZ (fun q => q < W.heap.size) v ∧ Vars wr) := ⟨HKv.out.1.below (belowN HW0.out HB.out), fun q hq => by have h1 : q < w.heap.size := HKv.out.2.1 q hq; have := HOl.out; show q < _; omega, HVW.out.below HB.out⟩
      have hcr := HD.out.crash v keep HRw.out.1 HRw.out.2.1 hk64 hkl
      clear HPut HPi HIt HX3 HD hk hlt
      have p2 : ((P + 1 : Nat) : Int) = 1 + (P : Int) := by omega
      go_wp2_with fail
      refine hcr.mono ?_
      rintro e w5 ⟨rfl, b5, Z', D', ms', kf, sz, cut, a1, a2, a3, a4, a5, a6, a7, a8, a9, a10, a11⟩
      have B5 : Below W.heap.size W w5 := HB.out.trans b5
      have hag := HAg2.out w5 d W.heap.size Z' D' ms' kf sz cut (hP ev (P + 1)) B5.size a1 a2 a3 a4 a5 a6 a7 a8 a9 a10 a11
      obtain ⟨c0, c1, c2⟩ := HC.out w5 B5
      clear HAg2 a1 a2 a3 a4 a5 a6 a7 a8 a9 a10 a11 hcr hk64 hkl b5
      go_wp2_with fail
      refine hag.mono ?_
      rintro e w6 ⟨s2, d2, k, hk1, hk2, rfl, h6, b6⟩
      have B6 : Below W.heap.size W w6 := belowN B5 b6
      have HX6 : Hid (PX W.heap.size w6 s2 d2 nd ev (msP nd k) k 5 200000000) := h6
      have hct := h6.counter
      have hke := h6.keys (by omega)
      rw [msP_len] at hct
      obtain ⟨g0, g1, g2⟩ := HC.out w6 B6
      have hHP : 0 < ev → ((hP ev (P + 1) : Nat) : Int) = 1 + (P : Int) - (1 + (P : Int)).tmod ev := fun h => by have := hP_eq h r4 (P + 1); rw [p2] at this; exact this
      have hH0 : ev = 0 → hP ev (P + 1) = 0 := fun h => by unfold hP; rw [if_pos h]
      obtain ⟨H, hH⟩ : ∃ H, hP ev (P + 1) = H := ⟨_, rfl⟩
      rw [hH] at hk1 hHP hH0
      clear hag h6 b6 c0 c1 c2 hH B5 HB
      go_wp2_with fail
      refine hct.mono ?_
      rintro e w7 ⟨rfl, rfl⟩
      go_wp2_with fail
      refine hke.mono ?_
      rintro e w8 ⟨v8, ks, rfl, hks, ho8, b8⟩
      have hks2 := keysP r1 r2 (by have := HPb.out; omega) hks
      obtain ⟨a8, c8, rfl⟩ := own_shape ho8
      have hkl8 : ks.length = k := by rw [hks2]; simp
      have B8 := belowN B6 b8
      have HO8 : Hid (w8.ownsRow w7.heap.size 9 1 (.slice a8 ks.length c8) ks.length (cellsX ks) ∧ ks = (List.range k).map kT ∧ Below W.heap.size W w8) := ⟨ho8, hks2, B8⟩
      have HX8 : Hid (PX W.heap.size w8 s2 d2 nd ev (msP nd k) k 5 200000000) := HX6.out.below b8
      obtain ⟨e0, e1, e2⟩ := HC.out w8 B8
      rw [hkl8]
      clear hct hke hks ho8 b8 hks2 B8 B6 g0 g1 g2 HX6 hkl8
      have k0 : (0 : Int) ≤ (k : Int) := by omega
      have hm0 : 0 ≤ (1 + (P : Int)).tmod ev := by rw [Int.tmod_eq_emod_of_nonneg (by omega)]; by_cases h : ev = 0; (subst h; simp; omega); exact Int.emod_nonneg _ h
      have hm1 : (1 + (P : Int)).tmod ev ≤ 60 := by rw [Int.tmod_eq_emod_of_nonneg (by omega)]; by_cases h : ev = 0; (subst h; simp; omega); have := Int.emod_lt_of_pos (1 + (P : Int)) (by omega : 0 < ev); omega
      go_upto_if 70 with (fail)
      go_cut [17] from 71 to 76 (fun v17 wx => v17 = .int .i64 H ∧ wx = w8)
      case first =>
        by_cases hev : 0 < ev
        · have hne : ¬ ev = 0 := by omega
          have hHe := hHP hev
          obtain ⟨mm, hmm⟩ : ∃ mm, (1 + (P : Int)).tmod ev = mm := ⟨_, rfl⟩
          rw [hmm] at hm0 hm1 hHe
          go_wp2
          go_meet
          exact ⟨by rw [hHe], rfl⟩
        · have hHe := hH0 (by omega)
          subst hHe
          clear hH0 hHP hm0 hm1
          go_wp2
          go_meet
          exact ⟨rfl, rfl⟩
      case rest =>
        obtain ⟨rfl, rfl⟩ := hcut
        have l1 : ¬ (k : Int) < (H : Int) := by omega
        have l2 : ¬ 1 + (P : Int) < (k : Int) := by omega
        have l1b : decide ((k : Int) < (H : Int)) = false := decide_eq_false l1
        have l2b : decide (1 + (P : Int) < (k : Int)) = false := decide_eq_false l2
        clear hHP hH0 hm0 hm1 e0 e1 e2
        have HIt2 : Hid (∀ X (n : Nat), n < 1000 → Below wc.heap.size wc X → Calls Tryz.prog 26 #[.int .i64 n] X fun e w' => e = .returned (.string (ba (Lib.itoa n))) ∧ Below X.heap.size X w') := fun X n hn hV => Itoa_any n X (by omega) (HVW.out.below (belowN HO8.out.2.2 hV))
        have HKP : Hid (k ≤ P + 1 ∧ P < 60) := ⟨hk2, HPb.out⟩
        have HGt : Hid (∀ X (t : Nat), t < k → Below wc.heap.size wc X → Calls Tryz.prog 29 #[.pointer (some ⟨s2, 0, none⟩), .string ((⟨#[107]⟩ : ByteArray) ++ ba (Lib.itoa ((100 + t : Nat) : Int)))] X fun e w' => ∃ v x, e = .returned (.tuple #[v, .string x, .int .i64 0]) ∧ OwnX w' X.heap.size v [(⟨#[118]⟩ : ByteArray) ++ ba (Lib.itoa (t : Int))] ∧ Below X.heap.size X w') := fun X t ht hX => by
          have hq := HKP.out
          have hr := (runP r1 r2 k (by omega)).1 t ht
          refine ((HX8.out.below hX).get (kT t) (by rw [kT_size t (by omega)]; exact by decide) (by rw [hr]; simp)).mono ?_
          rintro e w' ⟨⟨v, x, m, he, h⟩, hb⟩
          rw [hr] at h
          rcases h with ⟨h, _⟩ | ⟨_, h, _⟩ | ⟨_, _, h, _, rfl⟩
          · rw [kT_ok t (by omega)] at h; cases h
          · cases h
          · exact ⟨v, x, he, h, hb⟩
        have HPt : Hid (∀ X, Below wc.heap.size wc X → Calls Tryz.prog 25 #[.pointer (some ⟨s2, 0, none⟩), .string ⟨#[122]⟩, .string ⟨#[110, 101, 119]⟩, .string ⟨#[0]⟩] X fun e w' => e = .returned (.int .i64 0) ∧ (∀ Y, Y = w' → Calls Tryz.prog 27 #[.pointer (some ⟨s2, 0, none⟩)] Y fun e w'' => e = .returned (.int .i64 ((k : Int) + 1)) ∧ w'' = Y) ∧ Below w.heap.size w w') := fun X hX => by
          have hq := HKP.out
          refine ((HX8.out.below hX).put (bud := 0) (by omega) ⟨#[122]⟩ ⟨#[110, 101, 119]⟩ (by decide) (by decide) ((runP r1 r2 k (by omega)).2 _ (zP (by omega))) r1 r2 (by rw [msP_len]; omega)).mono ?_
          rintro e w' ⟨he, hp, hb⟩
          refine ⟨he, ?_, belowN HW0.out ((belowN HO8.out.2.2 hX).trans hb)⟩
          rintro Y rfl
          have := hp.counter
          rw [List.length_append, msP_len] at this
          exact this
        have HKs : Hid (∀ X (t : Nat), t < k → Below wc.heap.size wc X → ∃ g, a8 = some ⟨g, 0, none⟩ ∧ X.cell? ⟨g, t, none⟩ = some (.string ((⟨#[107]⟩ : ByteArray) ++ ba (Lib.itoa ((100 + t : Nat) : Int))))) := fun X t ht hX => by
          obtain ⟨ho, hks, _⟩ := HO8.out
          have hl : ks.length = k := by rw [hks]; simp
          obtain ⟨a, cap, he, _, _, hc⟩ := own_cells ho
          injection he with e1 e2 e3
          subst e1
          obtain ⟨g, rfl, _, hc2⟩ := hc (by omega)
          refine ⟨g, rfl, cell_later hX (hc2 t _ ?_)⟩
          rw [hks]; unfold cellsX
          rw [List.getElem?_map, List.getElem?_map, List.getElem?_range ht]
          rfl
        have hk61 : (k : Int) ≤ 60 := by have := HKP.out; omega
        have l1c : ¬ k < H := by omega
        clear HVW HC HX8 HPb HKv HOl HRw
        go_upto_region 24 with (fail)
        clear hk1 hk2 l1 l2 l1b l2b l1c
        have HWC : Hid (Below w.heap.size w wc) := belowN HW0.out HO8.out.2.2
        clear HO8 HW0
        go_loopw [18] (fun i wr => ∃ t : Nat, t ≤ k ∧ i = .int .i64 t ∧ Hid (Below wc.heap.size wc wr)) (fun i _ => k - (intOf i).toNat)
        case atStart => exact ⟨0, Nat.zero_le _, rfl, Below.refl _ _⟩
        case round =>
          obtain ⟨t, ht, rfl, HB2⟩ := hrel
          by_cases hlt : t < k
          · have q1 : (t : Int) < (k : Int) := by omega
            have q0 : (0 : Int) ≤ (t : Int) := by omega
            have q2 : (t : Int) ≤ 60 := by omega
            have HI1 := HIt2.out wr (100 + t) (by omega) HB2.out
            have HI2 : Hid (∀ X, Below wr.heap.size wr X → Calls Tryz.prog 26 #[.int .i64 (t : Int)] X fun e w' => e = .returned (.string (ba (Lib.itoa t))) ∧ Below X.heap.size X w') := fun X hX => HIt2.out X t (by omega) (belowN HB2.out hX)
            have HI3 : Hid (∀ X, Below wr.heap.size wr X → Calls Tryz.prog 26 #[.int .i64 (100 + (t : Int))] X fun e w' => e = .returned (.string (ba (Lib.itoa ((100 + t : Nat) : Int)))) ∧ Below X.heap.size X w') := fun X hX => HIt2.out X (100 + t) (by omega) (belowN HB2.out hX)
            have HG : Hid (∀ X, Below wr.heap.size wr X → Calls Tryz.prog 29 #[.pointer (some ⟨s2, 0, none⟩), .string ((⟨#[107]⟩ : ByteArray) ++ ba (Lib.itoa ((100 + t : Nat) : Int)))] X fun e w' => ∃ v x, e = .returned (.tuple #[v, .string x, .int .i64 0]) ∧ OwnX w' X.heap.size v [(⟨#[118]⟩ : ByteArray) ++ ba (Lib.itoa (t : Int))] ∧ Below X.heap.size X w') := fun X hX => HGt.out X t hlt (belowN HB2.out hX)
            have HK2 : Hid (∀ X, Below wr.heap.size wr X → ∃ g, a8 = some ⟨g, 0, none⟩ ∧ X.cell? ⟨g, t, none⟩ = some (.string ((⟨#[107]⟩ : ByteArray) ++ ba (Lib.itoa ((100 + t : Nat) : Int))))) := fun X hX => HKs.out X t hlt (belowN HB2.out hX)
            have s1 := itoa_size (n := 100 + t) (by omega)
            have s2 := itoa_size (n := t) (by omega)
            obtain ⟨t1, ht1⟩ : ∃ x, ba (Lib.itoa ((100 + t : Nat) : Int)) = x := ⟨_, rfl⟩
            obtain ⟨t2, ht2⟩ : ∃ x, ba (Lib.itoa (t : Int)) = x := ⟨_, rfl⟩
            rw [ht1] at HI1 HI3 HG HK2 s1
            rw [ht2] at HI2 HG s2
            have hI1 : Calls Tryz.prog 26 #[.int .i64 (100 + (t : Int))] wr fun e w' => e = .returned (.string t1) ∧ Below wr.heap.size wr w' := HI1
            have z1 : ¬ 9223372036854775807 < 1 + t1.size := by omega
            have z2 : ¬ 9223372036854775807 < 1 + t2.size := by omega
            have HL0 : Hid (t < k) := hlt
            clear ht1 ht2 HI1 hlt ht s1 s2 HIt2 HGt HKs HPt
            go_wp2_with fail
            refine hI1.mono ?_
            rintro e w9 ⟨rfl, b9⟩
            go_wp2_with fail
            refine (HG.out _ b9).mono ?_
            rintro e w10 ⟨v10, x10, rfl, ho10, b10⟩
            have B10 : Below wr.heap.size wr w10 := belowN b9 b10
            obtain ⟨a10, c10, rfl, d1, d2, hc10⟩ := own_cells ho10
            obtain ⟨g10, rfl, _, hc10⟩ := hc10 (by simp)
            have f0 : w10.cell? ⟨g10, 0, none⟩ = some (.string ((⟨#[118]⟩ : ByteArray) ++ t2)) := hc10 0 _ rfl
            obtain ⟨g8, rfl, f1⟩ := HK2.out w10 B10
            have d1 : 1 ≤ c10 := d1
            clear hc10 ho10 HG HK2 b9 b10 hI1
            go_upto_region 27 with (fail)
            have hwr : IntKind.i64.wrap (100 + (t : Int)) = 100 + (t : Int) := wrap_in _ (by omega) (by omega)
            go_region_held3 (fun w' => w'.cell? ⟨g10, 0, none⟩ = some (.string ((⟨#[118]⟩ : ByteArray) ++ t2)) ∧ w'.cell? ⟨g8, t, none⟩ = some (.string ((⟨#[107]⟩ : ByteArray) ++ t1)))
              (first | exact ⟨f0, f1⟩ | exact ⟨by assumption, by assumption⟩)
              (first
                | (go_at_call_of 26 (Value.int IntKind.i64 (t : Int)); refine (HI2.out _ (by repeat (first | exact B10 | refine below_drewN ?_ _ | refine Below.drew ?_))).mono ?_; rintro e w11 ⟨rfl, b11⟩; have B11 : Below wr.heap.size wr w11 := belowN (by repeat (first | exact B10 | refine below_drewN ?_ _ | refine Below.drew ?_)) b11; have g0 := cell_later b11 f0; have g1 := cell_later b11 f1)
                | (go_at_call 26; refine (HI3.out _ (by repeat (first | exact B11 | refine below_drewN ?_ _ | refine Below.drew ?_))).mono ?_; rintro e w12 ⟨rfl, b12⟩; have B12 : Below wr.heap.size wr w12 := belowN (by repeat (first | exact B11 | refine below_drewN ?_ _ | refine Below.drew ?_)) b12; have k0 := cell_later b12 g0; have k1 := cell_later b12 g1))
            have HX : Hid (t < k ∧ Below wc.heap.size wc w12) := ⟨HL0.out, belowN HB2.out (by repeat (first | exact B12 | refine below_drewN ?_ _ | refine Below.drew ?_))⟩
            clear f0 f1 g0 g1 k0 k1 b11 b12 B10 B11 B12 HI2 HI3
            go_wp2
            go_roundw
            case rel => exact ⟨t + 1, HX.out.1, by go_num, HX.out.2⟩
            case measure => have := HX.out.1; simp [intOf]; omega
          · have htk : t = k := by omega
            subst htk
            have q1 : ¬ (t : Int) < (t : Int) := by omega
            have hpt := HPt.out wr HB2.out
            clear HIt2 HGt HKs hlt ht HPt HB2
            go_wp2_with fail
            refine hpt.mono ?_
            rintro e w9 ⟨rfl, hct, hbz⟩
            have hct := hct w9 rfl
            go_wp2_with fail
            refine hct.mono ?_
            rintro e w10 ⟨rfl, rfl⟩
            go_wp2
            go_ret
            exact ⟨rfl, hbz⟩
end Go.Proofs.YtilkdeghknjjhaaGreatDoor
