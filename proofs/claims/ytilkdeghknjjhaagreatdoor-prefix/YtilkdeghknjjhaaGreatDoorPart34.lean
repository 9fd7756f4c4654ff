/- The reader: clock, dot, mutation. -/
import Derived.Test.YtilkdeghknjjhaaGreatDoorPart32
import Derived.Test.YtilkdeghknjjhaaGreatDoorPart15
import Derived.Test.YtilkdeghknjjhaaGreatDoorPart01
import Derived.Deep.RegionHeld3
namespace Go.Proofs.YtilkdeghknjjhaaGreatDoor
open Go.RowKit M
set_option linter.unusedVariables false

/-- What Decode gives: the clock, and its number. -/
noncomputable def decC (l : Bs) : List (Int × Int) := open Classical in if Dec l then rdTo l (hd l) else []
noncomputable def decN (l : Bs) : Int := open Classical in if Dec l then 0 else 2
theorem Decode_f (l : Bs) (w : World) (hs : l.length ≤ 1000000000) :
    Calls Tryz.prog 88 #[.string (ba l)] w fun e w' => ∃ v, e = .returned (.tuple #[v, .int .i64 (decN l)]) ∧ w'.ownsRow w.heap.size 183 2 v (decC l).length (cellsE (decC l)) ∧ Below w.heap.size w w' := by
  refine (Decode_u (ba l) w (by rw [ba_size]; unfold maxLen; omega)).mono fun e w' ⟨v, J, c, he, hr, ho, hb⟩ => ?_
  have e1 : (ba l).data.toList = l := bs_ba l
  unfold DR at hr
  rw [e1] at hr
  rcases hr with ⟨h1, rfl, rfl⟩ | ⟨h1, rfl, rfl⟩
  · exact ⟨v, by rw [he]; unfold decN; rw [if_neg h1], by unfold decC; rw [if_neg h1]; exact ho, hb⟩
  · exact ⟨v, by rw [he]; unfold decN; rw [if_pos h1], by unfold decC; rw [if_pos h1]; exact ho, hb⟩
theorem rclk_dec (l : Bs) (r : Rr) : rclk l r = (decC (rpart l r).1, if decN (rpart l r).1 = 0 then (rpart l r).2 else ⟨(rpart l r).2.a, true⟩) := by
  unfold rclk decC decN
  by_cases h : Dec (rpart l r).1
  · rw [if_pos h, if_pos h, if_pos h]; rfl
  · rw [if_neg h, if_neg h, if_neg h]; rfl
theorem rpart_fits {t : ByteArray} {r : Rr} (h : Fits t r) : Fits t (rpart (bs t) r).2 ∧ r.a ≤ (rpart (bs t) r).2.a := by
  refine ⟨rtake_fits (rlen_fits h) _, ?_⟩
  have mono : ∀ (l : Bs) (r : Rr) n, r.a ≤ (rtake l r n).2.a := fun l r n => by
    unfold rtake; split
    · exact Nat.le_refl _
    · exact Nat.le_add_right _ _
  exact Nat.le_trans (mono _ r 1) (mono _ _ _)

set_option maxRecDepth 20000 in
set_option maxHeartbeats 1600000 in
theorem clock_any (g : Nat) (t : ByteArray) (r : Rr) (w : World) (h : RdrAt w g t r) (hf : Fits t r) :
    Calls Tryz.prog 283 #[.pointer (some ⟨g, 0, none⟩)] w fun e w' => ∃ v, e = .returned v ∧ w'.ownsRow w.heap.size 183 2 v (rclk (bs t) r).1.length (cellsE (rclk (bs t) r).1) ∧ RdrAt w' g t (rclk (bs t) r).2 ∧ Tr (One g) w w' := by
  have hL := length_any g t r w h hf
  have hle := rlen_le (bs t) r
  obtain ⟨hpf, hpa⟩ := rpart_fits hf
  have HT : Hid (∀ w1, RdrAt w1 g t (rlen (bs t) r).2 → Calls Tryz.prog 248 #[.pointer (some ⟨g, 0, none⟩), .int .i64 (((rlen (bs t) r).1 : Int) * 9)] w1 fun e w' => (∃ s, e = .returned (.string s)) ∧ RdrAt w' g t (rpart (bs t) r).2 ∧ Tr (One g) w1 w') :=
    fun w1 h1 => by
      have := take_any g t _ ((rlen (bs t) r).1 * 9) w1 h1 (rlen_fits hf) (by omega)
      rw [show ((((rlen (bs t) r).1 * 9 : Nat)) : Int) = ((rlen (bs t) r).1 : Int) * 9 by omega] at this
      exact this.mono fun e w' ⟨he, h2, h3⟩ => ⟨⟨_, he⟩, h2, h3⟩
  have hpart : ba (rpart (bs t) r).1 = t.extract r.a (rpart (bs t) r).2.a := by
    have : (rpart (bs t) r).1 = ((bs t).drop r.a).take ((rpart (bs t) r).2.a - r.a) := rfl
    rw [this, ba_extract]
    congr 1
    omega
  have hpl : (rpart (bs t) r).1.length ≤ 1000000000 := by
    have : (rpart (bs t) r).1 = ((bs t).drop r.a).take ((rpart (bs t) r).2.a - r.a) := rfl
    rw [this]
    have h1 : ((bs t).drop r.a).length ≤ t.size := by rw [List.length_drop, bs_len]; omega
    have h2 := List.length_take_le ((rpart (bs t) r).2.a - r.a) ((bs t).drop r.a)
    have := hf.1
    rw [List.length_take]
    omega
  have HD : Hid (∀ w1, Calls Tryz.prog 88 #[.string (t.extract r.a (rpart (bs t) r).2.a)] w1 fun e w' => ∃ v, e = .returned (.tuple #[v, .int .i64 (decN (rpart (bs t) r).1)]) ∧ w'.ownsRow w1.heap.size 183 2 v (decC (rpart (bs t) r).1).length (cellsE (decC (rpart (bs t) r).1)) ∧ Below w1.heap.size w1 w') := fun w1 => by
    have := Decode_f (rpart (bs t) r).1 w1 hpl
    rw [hpart] at this
    exact this
  have HR : Hid (rclk (bs t) r = (decC (rpart (bs t) r).1, if decN (rpart (bs t) r).1 = 0 then (rpart (bs t) r).2 else ⟨(rpart (bs t) r).2.a, true⟩)) := rclk_dec _ _
  have HN : Hid (decN (rpart (bs t) r).1 = 0 ∨ decN (rpart (bs t) r).1 = 2) := by
    show _ ∨ _
    unfold decN
    split
    · exact .inl rfl
    · exact .inr rfl
  obtain ⟨C, hC⟩ : ∃ C, decC (rpart (bs t) r).1 = C := ⟨_, rfl⟩
  obtain ⟨m, hm⟩ : ∃ m, decN (rpart (bs t) r).1 = m := ⟨_, rfl⟩
  rw [hm, hC] at HR HD
  rw [hm] at HN
  obtain ⟨q, hq⟩ : ∃ q, (rpart (bs t) r).2 = q := ⟨_, rfl⟩
  rw [hq] at HR HT HD hpf hpa
  obtain ⟨n, hn⟩ : ∃ n, (rlen (bs t) r).1 = n := ⟨_, rfl⟩
  rw [hn] at HT hL hle
  obtain ⟨hp1, hp2⟩ := hpf
  have c1 : w.cell? ⟨g, 1, none⟩ = some (.int .i64 r.a) := (h.cell 1).trans rfl
  have a0 : (0 : Int) ≤ (r.a : Int) := by omega
  have a1 : (r.a : Int) ≤ (q.a : Int) := by omega
  have a2 : (q.a : Int) ≤ (t.size : Int) := by omega
  have n0 : (0 : Int) ≤ (n : Int) := by omega
  have n1 : (n : Int) ≤ 255 := by omega
  clear hq hn hC hm h hf hpart hpl hp1 hp2 hle hpa
  go_enter Tryz.func283, Tryz.ntmps283
  go_wp2_with fail
  refine hL.mono ?_
  rintro e w1 ⟨rfl, h1, t1⟩
  go_wp2_with fail
  refine (HT.out w1 h1).mono ?_
  rintro e w2 ⟨⟨s, rfl⟩, h2, t2⟩
  have t3 := t1.trans t2
  have d0 : w2.cell? ⟨g, 0, none⟩ = some (.string t) := (h2.cell 0).trans rfl
  have d1 : w2.cell? ⟨g, 1, none⟩ = some (.int .i64 q.a) := (h2.cell 1).trans rfl
  have hs3 := t3.size
  have H2 : Hid (RdrAt w2 g t q) := h2
  clear t1 t2 h1 h2 c1
  go_upto_region 3 with (fail)
  go_cut [4, 5] from 15 to 29 (fun v c wx => c = .int .i64 m ∧ wx.ownsRow w2.heap.size 183 2 v C.length (cellsE C) ∧ Below w2.heap.size w2 wx)
  case first =>
    go_region_with (first
      | (go_at_call 88; refine (HD.out _).mono ?_; rintro e w' ⟨v, rfl, ho, hb⟩))
    all_goals (go_wp2_with fail; go_meet; exact ⟨rfl, ho, ⟨hb.os, hb.tape, hb.output, hb.size, hb.block⟩⟩)
  case rest =>
    obtain ⟨rfl, ho, hb⟩ := hcut
    have h3 := H2.out.below hb
    have t4 := t3.trans (below_tr hb (One g))
    have ho' := own_base ho hs3
    obtain ⟨av, cv, hvv⟩ := own_shape ho
    subst hvv
    have c2 : wc.cell? ⟨g, 2, none⟩ = some (.bool q.s) := (h3.cell 2).trans rfl
    have fz : ∀ o, wc.frozen? ⟨g, o, none⟩ = false := h3.frozen
    rcases HN.out with rfl | rfl
    · have HR2 : Hid ((rclk (bs t) r).1 = C ∧ (rclk (bs t) r).2 = q) := by show _ ∧ _; rw [HR.out]; simp
      clear HD HR hb ho
      go_wp2
      go_ret
      exact ⟨_, rfl, by rw [HR2.out.1]; exact ho', by rw [HR2.out.2]; exact h3, t4⟩
    · have HR2 : Hid ((rclk (bs t) r).1 = C ∧ (rclk (bs t) r).2 = ⟨q.a, true⟩) := by show _ ∧ _; rw [HR.out]; simp
      have HO : Hid ((wc.setCell ⟨g, 2, none⟩ (.bool true)).ownsRow w.heap.size 183 2 (.slice av C.length cv) C.length (cellsE C)) := own_setCell ho' h3 (by decide)
      clear HD HR hb ho
      go_wp2
      go_ret
      exact ⟨_, rfl, by rw [HR2.out.1]; exact HO.out, by rw [HR2.out.2]; exact h3.setS true, t4.set1 _ _⟩
theorem rclk_fits {t : ByteArray} {r : Rr} (h : Fits t r) : Fits t (rclk (bs t) r).2 := by
  rw [rclk_dec]
  have := (rpart_fits h).1
  show Fits t (if _ then _ else _)
  split
  · exact this
  · exact this
theorem rdot_fits {t : ByteArray} {r : Rr} (h : Fits t r) : Fits t (rdot (bs t) r).2 := by
  have := rclk_fits h
  unfold rdot
  split
  · exact this
  · exact this

set_option maxRecDepth 20000 in
set_option maxHeartbeats 1600000 in
theorem dot_any (g : Nat) (t : ByteArray) (r : Rr) (w : World) (h : RdrAt w g t r) (hf : Fits t r) :
    Calls Tryz.prog 282 #[.pointer (some ⟨g, 0, none⟩)] w fun e w' => e = .returned (.tuple #[.int .i64 (rdot (bs t) r).1.1, .int .i64 (rdot (bs t) r).1.2]) ∧ RdrAt w' g t (rdot (bs t) r).2 ∧ Tr (One g) w w' := by
  have hC := clock_any g t r w h hf
  have HR : Hid (rdot (bs t) r = if (rclk (bs t) r).1.length ≠ 1 then ((0, 0), ⟨(rclk (bs t) r).2.a, true⟩) else ((rclk (bs t) r).1.getD 0 (0, 0), (rclk (bs t) r).2)) := rfl
  obtain ⟨C, hCC⟩ : ∃ C, (rclk (bs t) r).1 = C := ⟨_, rfl⟩
  obtain ⟨q, hq⟩ : ∃ q, (rclk (bs t) r).2 = q := ⟨_, rfl⟩
  rw [hCC, hq] at hC HR
  clear hCC hq h hf
  go_enter Tryz.func282, Tryz.ntmps282
  go_wp2_with fail
  refine hC.mono ?_
  rintro e w1 ⟨v, rfl, ho, h1, t1⟩
  obtain ⟨a, cap, rfl, h2, h3, hA⟩ := own_cells ho
  clear h2 h3
  by_cases hl : C.length = 1
  · have HR2 : Hid (rdot (bs t) r = (C.getD 0 (0, 0), q)) := by show _ = _; rw [HR.out, if_neg (by omega)]
    obtain ⟨x, rfl⟩ : ∃ x, C = [x] := List.length_eq_one_iff.1 hl
    obtain ⟨b, rfl, hb, hc⟩ := hA (by simp)
    have e0 := hc 0 _ rfl
    have e1 := hc 1 _ rfl
    clear hc hA HR hl ho
    go_wp2_with fail
    go_quiet (fail)
    go_wp2
    go_ret2
    exact ⟨by rw [HR2.out]; rfl, by rw [HR2.out]; exact h1, t1.drewN _⟩
  · have HR2 : Hid (rdot (bs t) r = ((0, 0), ⟨q.a, true⟩)) := by show _ = _; rw [HR.out, if_pos hl]
    have c2 : w1.cell? ⟨g, 2, none⟩ = some (.bool q.s) := (h1.cell 2).trans rfl
    have fz : ∀ o, w1.frozen? ⟨g, o, none⟩ = false := h1.frozen
    have hlb : ((C.length : Int) != 1) = true := by simp; omega
    clear hA HR hl ho
    go_wp2
    go_ret2
    exact ⟨by rw [HR2.out]; rfl, by rw [HR2.out]; exact h1.setS true, t1.set1 _ _⟩
end Go.Proofs.YtilkdeghknjjhaaGreatDoor
/- The reader: mutation; and a mutation's text. -/
namespace Go.Proofs.YtilkdeghknjjhaaGreatDoor
open Go.RowKit M
set_option linter.unusedVariables false

theorem infoMt : (Tryz.prog.info? 111).map (·.size) = some 6 := by kernel_rfl
def mtZ : Array Value := #[.bool false, .int .i64 0, .int .i64 0, .string ⟨#[]⟩, .slice none 0 0, .string ⟨#[]⟩]
theorem one_mt (b : Bool) (n m : Int) (s t : ByteArray) (a : Option Addr) (l c : Nat) : (#[Value.bool b, Value.int .i64 n, Value.int .i64 m, Value.string s, Value.slice a l c, Value.string t] : Array Value).all (·.oneCell') = true := by simp [Value.oneCell']
theorem Tr.setNew {Z : Nat → Prop} {a w : World} (h : Tr Z a w) {k : Nat} (hk : a.heap.size ≤ k) (r : Array Value) : Tr Z a (w.setRow k r) :=
  ⟨h.os, h.tape, h.output, by have := h.size; simp [World.setRow]; exact this, fun i hi hz => (setRow_other w k i r (fun e => by omega)).trans (h.block i hi hz)⟩
theorem result_mut (tmps : Array Value) (w : World) (g : Nat) (cs : Array Value) (hs : cs.size = 6) (h4 : tmps.getD 4 undef = .pointer (some ⟨g, 0, none⟩)) (hg : w.heap[g]? = some (.cells cs 111 (0, 0))) :
    (results Tryz.f264 tmps).run Tryz.prog w = .ok (.agg cs) w := by
  have hl := run_loadVar_row (P := Tryz.prog) w g 111 111 cs (0, 0) _ hg Tryz.underlying111 rfl (by rw [hs]; exact infoMt)
  have h4' : tmps[4]?.getD undef = .pointer (some ⟨g, 0, none⟩) := by simpa using h4
  simp [results, Tryz.results264, h4', asAddr, hl]

set_option maxRecDepth 20000 in
set_option maxHeartbeats 1600000 in
theorem mutation_any (g : Nat) (t : ByteArray) (r : Rr) (gone : Bool) (w : World) (h : RdrAt w g t r) (hf : Fits t r) :
    Calls Tryz.prog 264 #[.pointer (some ⟨g, 0, none⟩), .bool gone] w fun e w' => ∃ vc, e = .returned (.agg #[.bool gone, .int .i64 (rmut (bs t) r gone).1.node, .int .i64 (rmut (bs t) r gone).1.count, .string (rmut (bs t) r gone).1.k, vc, .string (rmut (bs t) r gone).1.v]) ∧
      w'.ownsRow w.heap.size 183 2 vc (rmut (bs t) r gone).1.c.length (cellsE (rmut (bs t) r gone).1.c) ∧ RdrAt w' g t (rmut (bs t) r gone).2 ∧ Tr (One g) w w' := by
  have hg : g < w.heap.size := (Array.getElem?_eq_some_iff.1 h).1
  obtain ⟨D, hD⟩ : ∃ D, rdot (bs t) r = D := ⟨_, rfl⟩
  obtain ⟨C, hC⟩ : ∃ C, rclk (bs t) D.2 = C := ⟨_, rfl⟩
  obtain ⟨K, hK⟩ : ∃ K, rwords (bs t) C.2 = K := ⟨_, rfl⟩
  obtain ⟨V, hV⟩ : ∃ V, rwords (bs t) K.2 = V := ⟨_, rfl⟩
  have hM : rmut (bs t) r gone = (⟨gone, D.1.1, D.1.2, ba K.1, C.1, ba V.1⟩, V.2) := by unfold rmut; simp only [hD, hC, hK, hV]
  have f1 : Fits t D.2 := by rw [← hD]; exact rdot_fits hf
  have f2 : Fits t C.2 := by rw [← hC]; exact rclk_fits f1
  have f3 : Fits t K.2 := by rw [← hK]; exact rwords_fits f2
  have H1 : Hid (∀ w1, RdrAt w1 g t r → Calls Tryz.prog 282 #[.pointer (some ⟨g, 0, none⟩)] w1 fun e w' => e = .returned (.tuple #[.int .i64 D.1.1, .int .i64 D.1.2]) ∧ RdrAt w' g t D.2 ∧ Tr (One g) w1 w') := fun w1 h1 => by rw [← hD]; exact dot_any g t r w1 h1 hf
  have H2 : Hid (∀ w1, RdrAt w1 g t D.2 → Calls Tryz.prog 283 #[.pointer (some ⟨g, 0, none⟩)] w1 fun e w' => ∃ v, e = .returned v ∧ w'.ownsRow w1.heap.size 183 2 v C.1.length (cellsE C.1) ∧ RdrAt w' g t C.2 ∧ Tr (One g) w1 w') := fun w1 h1 => by rw [← hC]; exact clock_any g t _ w1 h1 f1
  have H3 : Hid (∀ w1, RdrAt w1 g t C.2 → Calls Tryz.prog 284 #[.pointer (some ⟨g, 0, none⟩)] w1 fun e w' => e = .returned (.string (ba K.1)) ∧ RdrAt w' g t K.2 ∧ Tr (One g) w1 w') := fun w1 h1 => by rw [← hK]; exact words_any g t _ w1 h1 f2
  have H4 : Hid (∀ w1, RdrAt w1 g t K.2 → Calls Tryz.prog 284 #[.pointer (some ⟨g, 0, none⟩)] w1 fun e w' => e = .returned (.string (ba V.1)) ∧ RdrAt w' g t V.2 ∧ Tr (One g) w1 w') := fun w1 h1 => by rw [← hV]; exact words_any g t _ w1 h1 f3
  rw [hM]
  clear hM hD hC hK hV f1 f2 f3 hf
  go_enter Tryz.func264, Tryz.ntmps264
  go_upto_region 1 with (fail)
  obtain ⟨W, hW, HR, HB, HA⟩ : ∃ W, (w.alloc (.cells #[.bool false, .int .i64 0, .int .i64 0, .string ⟨#[]⟩, .slice none 0 0, .string ⟨#[]⟩] 111)) = W ∧ Hid (W.heap[w.heap.size]? = some (.cells mtZ 111 (0, 0))) ∧ Hid (Below w.heap.size w W) ∧ Hid (RdrAt W g t r) :=
    ⟨_, rfl, heap_alloc_new w _, (Below.refl _ _).alloc (Nat.le_refl _) _, h.below ((Below.refl _ _).alloc (Nat.le_refl _) _)⟩
  rw [hW]
  clear hW h
  go_wp2_with fail
  refine (H1.out W HA.out).mono ?_
  rintro e w1 ⟨rfl, h1, t1⟩
  go_wp2_with fail
  refine (H2.out w1 h1).mono ?_
  rintro e w2 ⟨vc, rfl, ho, h2, t2⟩
  obtain ⟨ac, cc, hvv⟩ := own_shape ho
  subst hvv
  go_wp2_with fail
  refine (H3.out w2 h2).mono ?_
  rintro e w3 ⟨rfl, h3, t3⟩
  go_wp2_with fail
  refine (H4.out w3 h3).mono ?_
  rintro e w4 ⟨rfl, h4, t4⟩
  have T14 : Hid (Tr (One g) W w4) := ((t1.trans t2).trans t3).trans t4
  have T04 : Hid (Tr (One g) w w4) := (below_tr HB.out _).trans T14.out
  have hs1 := HB.out.size
  have hs2 := t1.size
  have HR4 : Hid (w4.heap[w.heap.size]? = some (.cells mtZ 111 (0, 0))) := T14.out.heap HR.out (fun hh => by have : w.heap.size = g := hh; omega)
  have HO4 : Hid (w4.ownsRow w.heap.size 183 2 (.slice ac C.1.length cc) C.1.length (cellsE C.1)) := by
    have hlt := ho.lt
    refine own_base (own_tr ho (t3.trans t4) (fun k hk hz => ?_)) (Nat.le_trans hs1 hs2)
    have h5 := (hlt k hk).1
    have h6 : k = g := hz
    omega
  obtain ⟨kk, hkk⟩ : ∃ s, ba K.1 = s := ⟨_, rfl⟩
  obtain ⟨vv, hvv⟩ : ∃ s, ba V.1 = s := ⟨_, rfl⟩
  have HKV : Hid (ba K.1 = kk ∧ ba V.1 = vv) := ⟨hkk, hvv⟩
  rw [hkk, hvv]
  clear hkk hvv t1 t2 t3 t4 h1 h2 h3 ho hs1 hs2
  go_wp2_with (first
    | (refine wpList_store_row rfl 111 _ _ rfl w.heap.size #[.bool gone, .int .i64 D.1.1, .int .i64 D.1.2, .string kk, .slice ac C.1.length cc, .string vv] rfl rfl 111 mtZ HR4.out infoMt rfl (one_mt _ _ _ _ _ _ _ _) ?_))
  refine bodyPost_ret (result_mut _ _ w.heap.size #[.bool gone, .int .i64 D.1.1, .int .i64 D.1.2, .string kk, .slice ac C.1.length cc, .string vv] rfl rfl (setRow_heap _ _ _ _ _ _ HR4.out)) rfl ⟨_, by show _ = Ending.returned (.agg #[_, _, _, .string (ba K.1), _, .string (ba V.1)]); rw [HKV.out.1, HKV.out.2], own_setRow HO4.out HR4.out (by decide), ?_, T04.out.setNew (Nat.le_refl _) _⟩
  have := h4
  unfold RdrAt at this ⊢
  rw [setRow_other _ _ _ _ (by omega)]
  exact this
end Go.Proofs.YtilkdeghknjjhaaGreatDoor
/- A mutation's text: sized, encodeClock, encodeDot, encode. -/
namespace Go.Proofs.YtilkdeghknjjhaaGreatDoor
open Go.RowKit M
set_option linter.unusedVariables false

def byte1 (n : Nat) : ByteArray := strOfNums [(n : Int)]
theorem conv_one (n : Int) (w : World) : (convert 126 9 (.slice (some ⟨w.heap.size, 0, none⟩) 1 1)).run Tryz.prog (w.alloc (.cells #[.int .u8 n] 5)) = .ok (.string (strOfNums [n])) (w.alloc (.cells #[.int .u8 n] 5)) :=
  conv_own (World.ownsRow_lit w #[.int .u8 n] 1 (Nat.le_refl _) (by decide) rfl)
theorem sz1 (n : Int) : (strOfNums [n]).size = 1 := rfl
theorem conv_row (n : Int) (w : World) (g : Nat) (h : w.heap[g]? = some (.cells #[.int .u8 n] 5 (0, 0))) : (convert 126 9 (.slice (some ⟨g, 0, none⟩) 1 1)).run Tryz.prog w = .ok (.string (strOfNums [n])) w :=
  conv_own (B := 0) (w := w) (n := 1) (l := [n]) ⟨rfl, .inr ⟨g, 1, _, rfl, Nat.zero_le _, h, Nat.le_refl _, by decide, rfl, rfl⟩⟩
theorem conv_drew (n : Int) (w : World) : (convert 126 9 (.slice (some ⟨w.heap.size, 0, none⟩) 1 1)).run Tryz.prog (w.alloc (.cells #[.int .u8 n] 5)).drew = .ok (.string (strOfNums [n])) (w.alloc (.cells #[.int .u8 n] 5)).drew :=
  conv_row n _ _ (heap_alloc_new w _)
/-- A text behind its length. -/
def szT (t : ByteArray) : ByteArray := byte1 t.size ++ t

set_option maxRecDepth 20000 in
set_option maxHeartbeats 800000 in
theorem sized_any (t : ByteArray) (w : World) (ht : t.size ≤ 255) :
    Calls Tryz.prog 178 #[.string t] w fun e w' => e = .returned (.string (szT t)) ∧ Below w.heap.size w w' := by
  have hc := conv_one (t.size : Int) w
  have n0 : (0 : Int) ≤ (t.size : Int) := by omega
  have n1 : (t.size : Int) ≤ 255 := by omega
  have hadd : ¬ 9223372036854775807 < (strOfNums [(t.size : Int)]).size + t.size := by rw [sz1]; omega
  clear ht
  go_enter Tryz.func178, Tryz.ntmps178
  go_wp2
  go_ret
  exact ⟨rfl, (Below.refl _ _).alloc (Nat.le_refl _) _⟩
theorem Encode_f (v : Value) (l : List (Int × Int)) (w : World) (hrd : Rd w v l) :
    Calls Tryz.prog 56 #[v] w fun e w' => ∃ n, e = .returned (.tuple #[.string (encT l), .int .i64 n]) ∧ Below w.heap.size w w' := by
  by_cases hk : Clk l
  · refine (Encode_yes v l w hrd hk).mono ?_
    rintro e w' ⟨rfl, hb⟩
    exact ⟨0, by unfold encT; rw [if_pos hk], hb⟩
  · refine (Encode_no v l w hrd hk).mono ?_
    rintro e w' ⟨rfl, hb⟩
    exact ⟨1, by unfold encT; rw [if_neg hk], hb⟩
set_option maxRecDepth 20000 in
set_option maxHeartbeats 800000 in
theorem encodeClock_any (v : Value) (l : List (Int × Int)) (w : World) (hrd : Rd w v l) :
    Calls Tryz.prog 179 #[v] w fun e w' => e = .returned (.string (encT l)) ∧ Below w.heap.size w w' := by
  have HE := Encode_f v l w hrd
  obtain ⟨a, cap, rfl, hrest⟩ := hrd
  obtain ⟨x, hx⟩ : ∃ x, encT l = x := ⟨_, rfl⟩
  rw [hx] at HE ⊢
  clear hx hrest
  go_enter Tryz.func179, Tryz.ntmps179
  go_wp2_with fail
  refine HE.mono ?_
  rintro e w1 ⟨n, rfl, hb⟩
  go_wp2
  go_ret
  exact ⟨rfl, hb⟩
set_option maxRecDepth 20000 in
set_option maxHeartbeats 800000 in
theorem encodeDot_any (n k : Int) (w : World) :
    Calls Tryz.prog 180 #[.int .i64 n, .int .i64 k] w fun e w' => e = .returned (.string (encT [(n, k)])) ∧ Below w.heap.size w w' := by
  obtain ⟨W, hW, HC, HB⟩ : ∃ W, (w.alloc (.cells #[.int .i64 n, .int .i64 k] 183)) = W ∧ Hid (Calls Tryz.prog 179 #[.slice (some ⟨w.heap.size, 0, none⟩) 1 1] W fun e w' => e = .returned (.string (encT [(n, k)])) ∧ Below W.heap.size W w') ∧ Hid (Below w.heap.size w W) :=
    ⟨_, rfl, encodeClock_any _ _ _ (Rd.own (B := w.heap.size) (World.ownsRow_lit w #[.int .i64 n, .int .i64 k] 1 (Nat.le_refl _) (by decide) rfl) rfl), (Below.refl _ _).alloc (Nat.le_refl _) _⟩
  obtain ⟨x, hx⟩ : ∃ x, encT [(n, k)] = x := ⟨_, rfl⟩
  rw [hx] at HC ⊢
  clear hx
  go_enter Tryz.func180, Tryz.ntmps180
  go_wp2_with fail
  clear hW
  refine HC.out.mono ?_
  rintro e w1 ⟨rfl, hb⟩
  go_wp2
  go_ret
  exact ⟨rfl, HB.out.trans (hb.mono HB.out.size)⟩
/-- A mutation, as a value. -/
def mtV (m : Mt) (vc : Value) : Value := .agg #[.bool m.del, .int .i64 m.node, .int .i64 m.count, .string m.k, vc, .string m.v]
noncomputable def encM (m : Mt) : ByteArray := byte1 (if m.del = true then 2 else 1) ++ encT [(m.node, m.count)] ++ encT m.c ++ szT m.k ++ szT m.v
theorem encT_size (c : List (Int × Int)) : (encT c).size ≤ 73 := by
  unfold encT
  split
  · rename_i h
    rw [str_size h]
    have := h.1
    omega
  · decide
set_option maxRecDepth 20000 in
set_option maxHeartbeats 12800000 in
theorem encode_any (m : Mt) (vc : Value) (w : World) (hrd : Rd w vc m.c) (hk : m.k.size ≤ 255) (hv : m.v.size ≤ 255) :
    Calls Tryz.prog 205 #[mtV m vc] w fun e w' => e = .returned (.string (encM m)) ∧ Below w.heap.size w w' := by
  obtain ⟨del, node, count, k, c, v⟩ := m
  simp only at hrd hk hv
  obtain ⟨D, hD⟩ : ∃ D, encT [(node, count)] = D := ⟨_, rfl⟩
  obtain ⟨C, hC⟩ : ∃ C, encT c = C := ⟨_, rfl⟩
  obtain ⟨K, hK⟩ : ∃ K, szT k = K := ⟨_, rfl⟩
  obtain ⟨V, hV⟩ : ∃ V, szT v = V := ⟨_, rfl⟩
  have HM : Hid (encM ⟨del, node, count, k, c, v⟩ = byte1 (if del = true then 2 else 1) ++ D ++ C ++ K ++ V) := by show _ = _; unfold encM; simp only [hD, hC, hK, hV]
  have H1 : Hid (∀ w1, Calls Tryz.prog 180 #[.int .i64 node, .int .i64 count] w1 fun e w' => e = .returned (.string D) ∧ Below w1.heap.size w1 w') := fun w1 => by rw [← hD]; exact encodeDot_any _ _ _
  have H2 : Hid (∀ w1, Below w.heap.size w w1 → Calls Tryz.prog 179 #[vc] w1 fun e w' => e = .returned (.string C) ∧ Below w1.heap.size w1 w') := fun w1 h1 => by rw [← hC]; exact encodeClock_any _ _ _ (hrd.below h1)
  have H3 : Hid (∀ w1, Calls Tryz.prog 178 #[.string k] w1 fun e w' => e = .returned (.string K) ∧ Below w1.heap.size w1 w') := fun w1 => by rw [← hK]; exact sized_any _ _ hk
  have H4 : Hid (∀ w1, Calls Tryz.prog 178 #[.string v] w1 fun e w' => e = .returned (.string V) ∧ Below w1.heap.size w1 w') := fun w1 => by rw [← hV]; exact sized_any _ _ hv
  have s1 : D.size ≤ 73 := by rw [← hD]; exact encT_size _
  have s2 : C.size ≤ 73 := by rw [← hC]; exact encT_size _
  have s3 : K.size ≤ 256 := by rw [← hK]; unfold szT; rw [ByteArray.size_append]; unfold byte1; rw [sz1]; omega
  have s4 : V.size ≤ 256 := by rw [← hV]; unfold szT; rw [ByteArray.size_append]; unfold byte1; rw [sz1]; omega
  obtain ⟨av, lv, cv, rfl⟩ : ∃ a l cap, vc = .slice a l cap := by obtain ⟨a, cap, h, _⟩ := hrd; exact ⟨_, _, _, h⟩
  clear hD hC hK hV hrd hk hv
  unfold mtV
  simp only
  go_enter Tryz.func205, Tryz.ntmps205
  go_upto_region 1 with (fail)
  obtain ⟨W, hW, c0, c1, c2, c3, c4, c5, HB⟩ : ∃ W, (w.alloc (.cells #[.bool del, .int .i64 node, .int .i64 count, .string k, .slice av lv cv, .string v] 111)) = W ∧ W.cell? ⟨w.heap.size, 0, none⟩ = some (.bool del) ∧ W.cell? ⟨w.heap.size, 1, none⟩ = some (.int .i64 node) ∧ W.cell? ⟨w.heap.size, 2, none⟩ = some (.int .i64 count) ∧
      W.cell? ⟨w.heap.size, 3, none⟩ = some (.string k) ∧ W.cell? ⟨w.heap.size, 4, none⟩ = some (.slice av lv cv) ∧ W.cell? ⟨w.heap.size, 5, none⟩ = some (.string v) ∧ Below w.heap.size w W :=
    ⟨_, rfl, by simp [go_sem], by simp [go_sem], by simp [go_sem], by simp [go_sem], by simp [go_sem], by simp [go_sem], (Below.refl _ _).alloc (Nat.le_refl _) _⟩
  rw [hW]
  clear hW
  go_upto_if 5 with (fail)
  go_cut [3] from 6 to 6 (fun b wx => b = .int .u8 (if del = true then 2 else 1) ∧ wx = W)
  case first =>
    cases del
    · go_wp2_with fail
      go_meet
      exact ⟨by simp, rfl⟩
    · go_wp2_with fail
      go_meet
      exact ⟨by simp, rfl⟩
  case rest =>
    obtain ⟨rfl, hwc⟩ := hcut
    subst hwc
    obtain ⟨mk, hmk⟩ : ∃ mk : Int, (if del = true then 2 else 1) = mk := ⟨_, rfl⟩
    have HM2 : Hid (encM ⟨del, node, count, k, c, v⟩ = strOfNums [mk] ++ D ++ C ++ K ++ V) := by
      show _ = _
      rw [HM.out, ← hmk]
      cases del <;> rfl
    rw [hmk]
    have hcv := conv_row mk
    have hcn := conv_one mk
    have hcd := conv_drew mk
    have hb0 : Below wc.heap.size wc wc := Below.refl _ _
    obtain ⟨bm, hbm⟩ : ∃ bm, strOfNums [mk] = bm := ⟨_, rfl⟩
    have sb : bm.size = 1 := by rw [← hbm]; rfl
    have a1 : ¬ 9223372036854775807 < bm.size + D.size := by omega
    have a2 : ¬ 9223372036854775807 < bm.size + D.size + C.size := by omega
    have a3 : ¬ 9223372036854775807 < bm.size + D.size + C.size + K.size := by omega
    have a4 : ¬ 9223372036854775807 < bm.size + D.size + C.size + K.size + V.size := by omega
    rw [hbm] at hcv hcn hcd HM2
    clear hbm sb s1 s2 s3 s4
    clear hmk c0
    go_upto_region 4 with (fail)
    refine wp_region_flow 27 [7] (fun u => #[.agg #[.bool del, .int .i64 node, .int .i64 count, .string k, .slice av lv cv, .string v], .pointer (some ⟨w.heap.size, 0, none⟩), .string (bm ++ D ++ C ++ K ++ V), .int .u8 mk, .pointer (some ⟨w.heap.size, 0, none⟩), .bool del, .int .u8 mk, u 7, .string bm,
      .pointer (some ⟨w.heap.size, 1, none⟩), .int .i64 node, .pointer (some ⟨w.heap.size, 2, none⟩), .int .i64 count, .string D, .string (bm ++ D), .pointer (some ⟨w.heap.size, 4, none⟩), .slice av lv cv, .string C, .string (bm ++ D ++ C),
      .pointer (some ⟨w.heap.size, 3, none⟩), .string k, .string K, .string (bm ++ D ++ C ++ K), .pointer (some ⟨w.heap.size, 5, none⟩), .string v, .string V, .string (bm ++ D ++ C ++ K ++ V)])
      (fun _ X => Below wc.heap.size wc X) (fun X Y => Below X.heap.size X Y) (fun _ v X => ∃ g, v = .slice (some ⟨g, 0, none⟩) 1 1 ∧ X.heap[g]? = some (.cells #[.int .u8 mk] 5 (0, 0)))
      (by kernel_rfl) (by kernel_rfl) (fun u => rfl) ?_ ?_ ?_ rfl ?_ ?_ (Below.drew (Below.refl _ _)) (eachOp_at ?_) ?_
    · intro u q hq; simp at hq; subst hq; rfl
    · exact flow_loose (fun u => rfl)
    · intro q hq; simp at hq; subst hq; decide
    · intro u; exact flow_keep [0, 1, 3, 4, 5] (by kernel_rfl) rfl rfl (by intro k hk; simp at hk; rcases hk with rfl | rfl | rfl | rfl | rfl <;> rfl)
    · rintro q z X Y hXY ⟨g, rfl, hg⟩; exact ⟨g, rfl, heap_later hXY hg⟩
    · simp only [eachOp]
      refine ⟨?_, ?_, ?_, ?_, ?_, ?_, ?_, ?_, ?_, ?_, ?_, ?_, ?_, ?_, ?_, ?_, ?_, ?_, ?_, ?_, ?_, ?_, trivial⟩
      all_goals
        intro L u X hL hup hcl hX hr
        refine wantedI rfl ?_
        clear hup hcl hL
        have f1 := cell_later hX c1
        have f2 := cell_later hX c2
        have f3 := cell_later hX c3
        have f4 := cell_later hX c4
        have f5 := cell_later hX c5
      · go_simp; exact ⟨hX, Below.refl _ _, rfl⟩
      · go_simp; exact ⟨belowA hX, belowA (Below.refl _ _), X.heap.size, rfl, heap_alloc_new X _⟩
      · obtain ⟨g, hu, hg⟩ := hr 7 (by simp) (by decide)
        have hcg := hcv X g hg
        go_simp
        exact ⟨hX, Below.refl _ _, rfl⟩
      · go_simp; exact ⟨hX, Below.refl _ _, rfl⟩
      · go_simp; exact ⟨hX, Below.refl _ _, rfl⟩
      · go_simp; exact ⟨hX, Below.refl _ _, rfl⟩
      · go_simp; exact ⟨hX, Below.refl _ _, rfl⟩
      · go_simp; exact (H1.out X).mono fun e w' ⟨he, hb⟩ => ⟨_, he, belowN hX hb, hb, rfl⟩
      · go_simp; exact ⟨hX, Below.refl _ _, rfl⟩
      · go_simp; exact ⟨hX, Below.refl _ _, rfl⟩
      · go_simp; exact ⟨hX, Below.refl _ _, rfl⟩
      · go_simp; exact (H2.out X (belowN HB hX)).mono fun e w' ⟨he, hb⟩ => ⟨_, he, belowN hX hb, hb, rfl⟩
      · go_simp; exact ⟨hX, Below.refl _ _, rfl⟩
      · go_simp; exact ⟨hX, Below.refl _ _, rfl⟩
      · go_simp; exact ⟨hX, Below.refl _ _, rfl⟩
      · go_simp; exact (H3.out X).mono fun e w' ⟨he, hb⟩ => ⟨_, he, belowN hX hb, hb, rfl⟩
      · go_simp; exact ⟨hX, Below.refl _ _, rfl⟩
      · go_simp; exact ⟨hX, Below.refl _ _, rfl⟩
      · go_simp; exact ⟨hX, Below.refl _ _, rfl⟩
      · go_simp; exact (H4.out X).mono fun e w' ⟨he, hb⟩ => ⟨_, he, belowN hX hb, hb, rfl⟩
      · go_simp; exact ⟨hX, Below.refl _ _, rfl⟩
      · go_simp; exact ⟨hX, Below.refl _ _, rfl⟩
    · intro L u X hL hX hr
      go_wp2
      go_ret
      exact ⟨by rw [HM2.out]; rfl, belowN HB hX⟩
end Go.Proofs.YtilkdeghknjjhaaGreatDoor
