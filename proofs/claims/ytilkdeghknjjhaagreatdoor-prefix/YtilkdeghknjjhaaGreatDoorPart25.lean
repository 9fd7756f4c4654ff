/- The disk: do. -/
import Derived.Test.YtilkdeghknjjhaaGreatDoorPart22
import Derived.Deep.DeepCutAuto
namespace Go.Proofs.YtilkdeghknjjhaaGreatDoor
open Go.RowKit
set_option linter.unusedVariables false

/-- The step's own name, where its place is. -/
def doA (s : Stp) (p k : Nat) : List Nm := if ((k : Int) == (p : Int)) = true ∧ (s.k != 3) = true then [⟨s.to, s.f⟩] else []
/-- A name that stays. -/
def doB (s : Stp) (x : Nm) : List Nm := if (x.n.toList == s.fr.toList) = false ∧ ((s.k == 3) = true ∨ (x.n.toList == s.to.toList) = false) then [x] else []
def doTo (l : List Nm) (s : Stp) : Nat → List Nm
  | 0 => []
  | k + 1 => doTo l s k ++ doA s (fd l s.to) k ++ doB s (nm l k)
/-- The directory behind a step. -/
def doS (l : List Nm) (s : Stp) : List Nm := doTo l s l.length ++ doA s (fd l s.to) l.length
theorem doA_len (s : Stp) (p k : Nat) : (doA s p k).length ≤ 1 := by unfold doA; split <;> simp
theorem doB_len (s : Stp) (x : Nm) : (doB s x).length ≤ 1 := by unfold doB; split <;> simp
theorem doTo_len (l : List Nm) (s : Stp) : ∀ k, (doTo l s k).length ≤ 2 * k
  | 0 => by simp [doTo]
  | k + 1 => by
    have := doTo_len l s k
    have := doA_len s (fd l s.to) k
    have := doB_len s (nm l k)
    simp only [doTo, List.length_append]; omega

set_option maxRecDepth 20000 in
set_option maxHeartbeats 1600000 in
theorem do_any (v : Value) (l : List Nm) (s : Stp) (w : World) (hrd : RdN w v l) (hl : l.length ≤ 1000000000) :
    Calls Tryz.prog 43 #[v, .agg #[.int .i64 s.k, .string s.fr, .string s.to, .int .i64 s.f]] w fun e w' => ∃ v', e = .returned v' ∧ w'.ownsRow w.heap.size 102 2 v' (doS l s).length (cellsN (doS l s)) ∧ Below w.heap.size w w' := by
  obtain ⟨i0, hi, hz0, hz1, hz2⟩ := info_parts infoNm
  obtain ⟨a, cap, rfl, hlc, hc, hA⟩ := hrd.cells
  have hl1 : (l.length : Int) ≤ 1000000000 := by omega
  clear hlc hc
  go_enter Tryz.func43, Tryz.ntmps43
  go_wp2_with fail
  obtain ⟨W0, hW0, hb0, t0, t1, t2, t3⟩ : ∃ W0, (w.alloc (.cells #[.int .i64 s.k, .string s.fr, .string s.to, .int .i64 s.f] 97)) = W0 ∧ Below w.heap.size w W0 ∧
      W0.cell? ⟨w.heap.size, 0, none⟩ = some (.int .i64 s.k) ∧ W0.cell? ⟨w.heap.size, 1, none⟩ = some (.string s.fr) ∧ W0.cell? ⟨w.heap.size, 2, none⟩ = some (.string s.to) ∧ W0.cell? ⟨w.heap.size, 3, none⟩ = some (.int .i64 s.f) :=
    ⟨_, rfl, (Below.refl _ _).alloc (Nat.le_refl _) _, by simp [go_sem], by simp [go_sem], by simp [go_sem], by simp [go_sem]⟩
  rw [hW0]
  clear hW0
  go_wp2_with fail
  refine (find_any _ l s.to W0 (own_below hrd hb0) hl).mono ?_
  rintro e W ⟨rfl, hbW⟩
  have HT : Hid (W.cell? ⟨w.heap.size, 0, none⟩ = some (.int .i64 s.k) ∧ W.cell? ⟨w.heap.size, 1, none⟩ = some (.string s.fr) ∧ W.cell? ⟨w.heap.size, 2, none⟩ = some (.string s.to) ∧ W.cell? ⟨w.heap.size, 3, none⟩ = some (.int .i64 s.f)) :=
    ⟨cell_later hbW t0, cell_later hbW t1, cell_later hbW t2, cell_later hbW t3⟩
  have HB : Hid (Below w.heap.size w W) := hb0.trans (hbW.mono hb0.size)
  have hsW : w.heap.size ≤ W.heap.size := HB.out.size
  clear t0 t1 t2 t3 hbW hb0
  go_wp2_with fail
  go_loopw [5, 8] (fun p q wr => ∃ k : Nat, k ≤ l.length ∧ q = .int .i64 k ∧ wr.ownsRow W.heap.size 102 2 p (doTo l s k).length (cellsN (doTo l s k)) ∧ Below W.heap.size W wr) (fun _ q _ => l.length - (intOf q).toNat)
  case atStart => exact ⟨0, Nat.zero_le _, rfl, World.ownsRow_nil _ _ _ _, Below.refl _ _⟩
  case round =>
    obtain ⟨k, hk, rfl, ho, hb⟩ := hrel
    have hsz := hb.size
    have d0 := cell_later hb HT.out.1
    have d1 := cell_later hb HT.out.2.1
    have d2 := cell_later hb HT.out.2.2.1
    have d3 := cell_later hb HT.out.2.2.2
    obtain ⟨a5, cap5, hu5⟩ := own_shape ho
    subst hu5
    have hlen := doTo_len l s k
    by_cases hlt : k < l.length
    · obtain ⟨g, rfl, hr⟩ := hA (by omega)
      have q1 : (k : Int) < (l.length : Int) := by omega
      have q0 : (0 : Int) ≤ (k : Int) := by omega
      have HR : Hid (W.cell? ⟨g, k * 2, none⟩ = some (.string (nm l k).n) ∧ W.cell? ⟨g, k * 2 + 1, none⟩ = some (.int .i64 (nm l k).f)) := ⟨cell_later HB.out (hr k hlt).1, cell_later HB.out (hr k hlt).2⟩
      have HS : Hid (doTo l s (k + 1) = doTo l s k ++ doA s (fd l s.to) k ++ doB s (nm l k)) := rfl
      obtain ⟨x, hx⟩ : ∃ x, nm l k = x := ⟨_, rfl⟩
      rw [hx] at HR HS
      obtain ⟨U, hU⟩ : ∃ U, doTo l s k = U := ⟨_, rfl⟩
      rw [hU] at ho hlen HS
      rw [hU]
      obtain ⟨pp, hpp⟩ : ∃ pp, fd l s.to = pp := ⟨_, rfl⟩
      rw [hpp] at HS
      rw [hpp]
      clear hA hr hx hU hpp
      go_upto_region 6 with (fail)
      obtain ⟨B, hB⟩ : ∃ B : Bool, (((k : Int) == (pp : Int)) && (s.k != 3)) = B := ⟨_, rfl⟩
      have HB1 : Hid ((((k : Int) == (pp : Int)) && (s.k != 3)) = B) := hB
      have HD : Hid (doA s pp k = if B = true then [⟨s.to, s.f⟩] else []) := by
        show doA s pp k = _
        rw [← hB]; unfold doA; simp
      clear hB
      go_cut [29] from 22 to 29 (fun s29 wx => s29 = .bool B ∧ wx = wr)
      case first =>
        by_cases hp : ((k : Int) == (pp : Int)) = true
        · go_wp2_with fail
          go_meet
          exact ⟨by rw [← HB1.out, hp]; rfl, rfl⟩
        · have hp' : ((k : Int) == (pp : Int)) = false := by simpa using hp
          clear hp
          go_wp2_with fail
          go_meet
          exact ⟨by rw [← HB1.out, hp']; rfl, rfl⟩
      case rest =>
      obtain ⟨rfl, rfl⟩ := hcut
      go_upto_if 29 with fail
      go_cut [5] from 30 to 37 (fun s5 wx => wx.ownsRow W.heap.size 102 2 s5 (U ++ doA s pp k).length (cellsN (U ++ doA s pp k)) ∧ Below W.heap.size W wx)
      case first =>
        cases B
        · go_wp2_with fail
          go_meet
          exact ⟨by rw [HD.out, if_neg (by decide), List.append_nil]; exact ho, hb⟩
        · go_wp2_with (first
            | (at_builtin; refine wpList_append_own _ rfl _ _ 91 rfl W.heap.size 102 i0 (.agg #[.string ByteArray.empty, .int .i64 0]) 2 24 Tryz.underlying91 hi hz0 hz1 hz2 rfl (by decide) _ _ _ rfl (ho.alloc _) ⟨_, 0, none⟩ 1 1 [.string s.to, .int .i64 s.f] rfl rfl (cells_two_new _ _ _ _) (one_cellsN [⟨s.to, s.f⟩]) (by unfold maxLen; omega) (by omega) (by simp; omega) ?_))
          intro v' w2 hown' hgrow _
          have hb3 := (hb.alloc (by omega) _).grown hgrow (by simp; omega) (fun q hq => (ho.lt q hq).1)
          clear ho hb hgrow
          go_wp2_with fail
          go_meet
          exact ⟨by rw [HD.out]; simp only [if_true, List.length_append, cellsN_snoc]; exact hown', hb3⟩
      case rest =>
      obtain ⟨ho2, hb2⟩ := hcut
      have hA1 := doA_len s pp k
      obtain ⟨U2, hU2⟩ : ∃ U2, U ++ doA s pp k = U2 := ⟨_, rfl⟩
      have hlen2 : U2.length ≤ 2 * k + 1 := by rw [← hU2, List.length_append]; omega
      rw [hU2] at ho2 HS
      obtain ⟨a6, cap6, hu6⟩ := own_shape ho2
      subst hu6
      have hsz2 := hb2.size
      have d0 := cell_later hb2 HT.out.1
      have d1 := cell_later hb2 HT.out.2.1
      have d2 := cell_later hb2 HT.out.2.2.1
      have e0 := cell_later hb2 HR.out.1
      have e1 := cell_later hb2 HR.out.2
      clear ho hb hU2 HD HB1 hA1
      by_cases hP : (x.n.toList == s.fr.toList) = false
      · by_cases h3 : (s.k == 3) = true
        · have HD : Hid (doB s x = [x]) := by show doB s x = _; unfold doB; rw [if_pos ⟨hP, .inl h3⟩]
          go_upto_region 8 with (fail)
          go_quiet (fail)
          obtain ⟨WD, hWD, hoD, hbD, e0D, e1D⟩ : ∃ WD, _ = WD ∧ WD.ownsRow W.heap.size 102 2 (.slice a6 U2.length cap6) U2.length (cellsN U2) ∧ Below W.heap.size W WD ∧ WD.cell? ⟨g, k * 2, none⟩ = some (.string x.n) ∧ WD.cell? ⟨g, k * 2 + 1, none⟩ = some (.int .i64 x.f) :=
            ⟨_, rfl, ho2, below_drewN hb2 nq, e0, e1⟩
          rw [hWD]
          have hszD := hbD.size
          clear hWD e0 e1 d0 d1 d2 ho2 hb2
          go_wp2_with (first
            | (at_builtin; refine wpList_append_own _ rfl _ _ 91 rfl W.heap.size 102 i0 (.agg #[.string ByteArray.empty, .int .i64 0]) 2 24 Tryz.underlying91 hi hz0 hz1 hz2 rfl (by decide) _ _ _ rfl (hoD.alloc _) ⟨_, 0, none⟩ 1 1 [.string x.n, .int .i64 x.f] rfl rfl (cells_two_new _ _ _ _) (one_cellsN [x]) (by unfold maxLen; omega) (by omega) (by simp; omega) ?_))
          intro v' w2 hown' hgrow _
          have hb3 := (hbD.alloc (by omega) _).grown hgrow (by simp; omega) (fun q hq => (hoD.lt q hq).1)
          clear hoD hbD hgrow
          go_wp2_with fail
          go_roundw
          case rel => exact ⟨k + 1, by omega, by go_num, by rw [HS.out, HD.out, List.length_append, cellsN_snoc]; exact hown', hb3⟩
          case measure => simp [intOf]; omega
        · have h3' : (s.k == 3) = false := by simpa using h3
          clear h3
          by_cases hQ : (x.n.toList == s.to.toList) = false
          · have HD : Hid (doB s x = [x]) := by show doB s x = _; unfold doB; rw [if_pos ⟨hP, .inr hQ⟩]
            go_upto_region 8 with (fail)
            go_quiet (fail)
            obtain ⟨WD, hWD, hoD, hbD, e0D, e1D⟩ : ∃ WD, _ = WD ∧ WD.ownsRow W.heap.size 102 2 (.slice a6 U2.length cap6) U2.length (cellsN U2) ∧ Below W.heap.size W WD ∧ WD.cell? ⟨g, k * 2, none⟩ = some (.string x.n) ∧ WD.cell? ⟨g, k * 2 + 1, none⟩ = some (.int .i64 x.f) :=
              ⟨_, rfl, ho2, below_drewN hb2 nq, e0, e1⟩
            rw [hWD]
            have hszD := hbD.size
            clear hWD e0 e1 d0 d1 d2 ho2 hb2
            go_wp2_with (first
              | (at_builtin; refine wpList_append_own _ rfl _ _ 91 rfl W.heap.size 102 i0 (.agg #[.string ByteArray.empty, .int .i64 0]) 2 24 Tryz.underlying91 hi hz0 hz1 hz2 rfl (by decide) _ _ _ rfl (hoD.alloc _) ⟨_, 0, none⟩ 1 1 [.string x.n, .int .i64 x.f] rfl rfl (cells_two_new _ _ _ _) (one_cellsN [x]) (by unfold maxLen; omega) (by omega) (by simp; omega) ?_))
            intro v' w2 hown' hgrow _
            have hb3 := (hbD.alloc (by omega) _).grown hgrow (by simp; omega) (fun q hq => (hoD.lt q hq).1)
            clear hoD hbD hgrow
            go_wp2_with fail
            go_roundw
            case rel => exact ⟨k + 1, by omega, by go_num, by rw [HS.out, HD.out, List.length_append, cellsN_snoc]; exact hown', hb3⟩
            case measure => simp [intOf]; omega
          · have HD : Hid (doB s x = []) := by show doB s x = _; unfold doB; rw [if_neg (fun h => h.2.elim (fun h => by rw [h3'] at h; exact Bool.noConfusion h) hQ)]
            have hQ' : (x.n.toList == s.to.toList) = true := by simpa using hQ
            clear hQ
            go_upto_region 8 with (fail)
            go_quiet (fail)
            go_wp2_with fail
            go_roundw
            case rel => exact ⟨k + 1, by omega, by go_num, by rw [HS.out, HD.out, List.append_nil]; exact ho2, below_drewN hb2 nq⟩
            case measure => simp [intOf]; omega
      · have HD : Hid (doB s x = []) := by show doB s x = _; unfold doB; rw [if_neg (fun h => hP h.1)]
        have hP' : (x.n.toList == s.fr.toList) = true := by simpa using hP
        clear hP
        go_upto_region 8 with (fail)
        go_quiet (fail)
        go_wp2_with fail
        go_roundw
        case rel => exact ⟨k + 1, by omega, by go_num, by rw [HS.out, HD.out, List.append_nil]; exact ho2, below_drewN hb2 nq⟩
        case measure => simp [intOf]; omega
    · have q1 : ¬ (k : Int) < (l.length : Int) := by omega
      have hkl : k = l.length := by omega
      rw [hkl] at ho hlen
      have HS : Hid (doS l s = doTo l s l.length ++ doA s (fd l s.to) l.length) := rfl
      obtain ⟨pp, hpp⟩ : ∃ pp, fd l s.to = pp := ⟨_, rfl⟩
      rw [hpp] at HS
      rw [hpp]
      obtain ⟨U, hU⟩ : ∃ U, doTo l s l.length = U := ⟨_, rfl⟩
      rw [hU] at ho hlen HS
      rw [hkl, hU]
      rw [hkl] at q1
      clear hA hpp hU hkl
      by_cases hp : ((pp : Int) == (l.length : Int)) = true
      · have hp2 : ((l.length : Int) == (pp : Int)) = true := by simp at hp ⊢; omega
        by_cases h3 : (s.k != 3) = true
        · have HD : Hid (doA s pp l.length = [⟨s.to, s.f⟩]) := by show doA s pp _ = _; unfold doA; rw [if_pos ⟨hp2, h3⟩]
          clear hp2
          go_wp2_with (first
            | (at_builtin; refine wpList_append_own _ rfl _ _ 91 rfl W.heap.size 102 i0 (.agg #[.string ByteArray.empty, .int .i64 0]) 2 24 Tryz.underlying91 hi hz0 hz1 hz2 rfl (by decide) _ _ _ rfl (ho.alloc _) ⟨_, 0, none⟩ 1 1 [.string s.to, .int .i64 s.f] rfl rfl (cells_two_new _ _ _ _) (one_cellsN [⟨s.to, s.f⟩]) (by unfold maxLen; omega) (by omega) (by simp; omega) ?_))
          intro v' w2 hown' hgrow _
          have hb3 := (hb.alloc (by omega) _).grown hgrow (by simp; omega) (fun q hq => (ho.lt q hq).1)
          have hb4 := HB.out.trans (hb3.mono hsW)
          clear ho hb hgrow hb3
          go_wp2_with fail
          go_ret
          exact ⟨_, rfl, by rw [HS.out, HD.out, List.length_append, cellsN_snoc]; exact own_base hown' hsW, hb4⟩
        · have HD : Hid (doA s pp l.length = []) := by show doA s pp _ = _; unfold doA; rw [if_neg (fun h => h3 h.2)]
          have h3' : (s.k != 3) = false := by simpa using h3
          have hb4 := HB.out.trans (hb.mono hsW)
          clear hp2 h3
          go_wp2_with fail
          go_ret
          exact ⟨_, rfl, by rw [HS.out, HD.out, List.append_nil]; exact own_base ho hsW, hb4⟩
      · have hp2 : ¬ ((l.length : Int) == (pp : Int)) = true := by simp at hp ⊢; omega
        have hp' : ((pp : Int) == (l.length : Int)) = false := by simpa using hp
        have HD : Hid (doA s pp l.length = []) := by show doA s pp _ = _; unfold doA; rw [if_neg (fun h => hp2 h.1)]
        have hb4 := HB.out.trans (hb.mono hsW)
        clear hp2 hp
        go_wp2_with fail
        go_ret
        exact ⟨_, rfl, by rw [HS.out, HD.out, List.append_nil]; exact own_base ho hsW, hb4⟩
end Go.Proofs.YtilkdeghknjjhaaGreatDoor
/- The disk: Sync, SyncDir. -/
namespace Go.Proofs.YtilkdeghknjjhaaGreatDoor
open Go.RowKit
set_option linter.unusedVariables false

theorem Dk.chg_files (D : Dk) : D.chg.files = D.files := by unfold Dk.chg; split <;> rfl
theorem Dk.chg_now (D : Dk) : D.chg.now = D.now := by unfold Dk.chg; split <;> rfl
theorem Dk.chg_safe (D : Dk) : D.chg.safe = D.safe := by unfold Dk.chg; split <;> rfl
theorem Dk.chg_steps (D : Dk) : D.chg.steps = D.steps := by unfold Dk.chg; split <;> rfl
theorem Dk.chg_cap (D : Dk) : D.chg.cap = D.cap := by unfold Dk.chg; split <;> rfl
theorem Dk.chg_bytesTo (D : Dk) : ∀ k, D.chg.bytesTo k = D.bytesTo k
  | 0 => rfl
  | k + 1 => by simp only [Dk.bytesTo, D.chg_bytesTo k, D.chg_files, D.chg_now]
theorem Dk.chg_bytes (D : Dk) : D.chg.bytes = D.bytes := by unfold Dk.bytes; rw [D.chg_bytesTo, D.chg_now]
theorem Dk.chg_fit {D : Dk} (h : D.Fit) (hf : D.failed < 1000000000000000) : D.chg.Fit := by
  obtain ⟨h1, h2, h3, h4⟩ := h
  unfold Dk.chg
  by_cases hm : D.may = true
  · rw [if_pos hm]
    exact ⟨by show (if 0 < D.wait then D.wait - 1 else D.wait) ≤ _; split <;> omega, by show (if 0 < D.life then D.life - 1 else D.life) ≤ _; split <;> omega, h3, h4⟩
  · rw [if_neg hm]
    exact ⟨by show (if D.life = 0 then D.wait else -1) ≤ _; split <;> omega, h2, by show 0 ≤ D.failed + 1; omega, by show D.failed + 1 ≤ _; omega⟩
theorem Dk.OK.of {D E : Dk} (h : D.OK) (h1 : E.files = D.files) (h2 : E.now = D.now) (h3 : E.safe = D.safe) (h4 : E.steps = D.steps) (h5 : E.cap = D.cap) (hf : E.Fit) : E.OK :=
  ⟨hf, by rw [h1, h2]; exact h.now, by rw [h1, h3]; exact h.safe, by rw [h1, h4]; exact h.steps, by rw [h2]; exact h.ln, by rw [h1]; exact h.lf, by rw [h4]; exact h.lt, by rw [h3]; exact h.ls, by rw [h1]; exact h.sz, by rw [h5]; exact h.c0, by rw [h5]; exact h.c1, by rw [h5, h1]; exact h.neg⟩
theorem Dk.OK.chg {D : Dk} (h : D.OK) (hf : D.failed < 1000000000000000) : D.chg.OK := h.of D.chg_files D.chg_now D.chg_safe D.chg_steps D.chg_cap (Dk.chg_fit h.fit hf)

/-- A cell of an owned row is written. -/
theorem own_setOwn {w : World} {B e size n g cap o : Nat} {u : Value} {xs : List Value} (h : w.ownsRow B e size (.slice (some ⟨g, 0, none⟩) n cap) n xs) (ho : o < n * size) : (w.setCell ⟨g, o, none⟩ u).ownsRow B e size (.slice (some ⟨g, 0, none⟩) n cap) n (xs.set o u) := by
  obtain ⟨h1, h2⟩ := h
  refine ⟨by rw [List.length_set, h1], ?_⟩
  rcases h2 with ⟨hv, _⟩ | ⟨g2, cap2, cur, hv, hB, hg, hle, hm, hsz, htk⟩
  · simp at hv
  · injection hv with h3 h4 h5
    simp at h3
    subst h3
    subst h5
    refine .inr ⟨g, cap, _, rfl, hB, heap_setCell_self hg o u, hle, hm, by simp [hsz], ?_⟩
    rw [← htk]
    simp [List.take_set]
/-- A cell of the files' row is written. -/
theorem DiskIn.setFile {Z : Nat → Prop} {w : World} {p g cap o n : Nat} {D D' : Dk} {u vn vs vt : Value} (h : DiskIn Z w p D (.slice (some ⟨g, 0, none⟩) n cap) vn vs vt) (hn : n = D.files.length) (ho : o < D.files.length * 2)
    (hl : D'.files.length = D.files.length) (hc : cellsF D'.files = (cellsF D.files).set o u) (h2 : D'.now = D.now) (h3 : D'.safe = D.safe) (h4 : D'.steps = D.steps)
    (hr : ∀ a b c d, D'.row a b c d = D.row a b c d) : DiskIn Z (w.setCell ⟨g, o, none⟩ u) p D' (.slice (some ⟨g, 0, none⟩) D'.files.length cap) vn vs vt := by
  subst hn
  have hg : ∃ cur, w.heap[g]? = some (.cells cur 100 (0, 0)) := by
    rcases h.rf.2 with ⟨hv, _⟩ | ⟨g2, cap2, cur, hv, _, hg, _⟩
    · simp at hv
    · injection hv with h3 h4 h5
      simp at h3
      subst h3
      exact ⟨cur, hg⟩
  obtain ⟨cur, hg⟩ := hg
  have hne : p ≠ g := fun e => by subst e; rw [h.hp] at hg; simp at hg
  refine ⟨h.zp, ?_, ?_, ?_, ?_, ?_, ?_, h.zn, h.zs, h.zt⟩
  · rw [Below.heap_setCell _ _ _ _ hne, h.hp, hl, hr]
  · rw [hc, hl]; exact own_setOwn h.rf ho
  · have := own_setCell (o := o) (u := u) h.rn hg (by decide); rw [← h2] at this; exact this
  · have := own_setCell (o := o) (u := u) h.rs hg (by decide); rw [← h3] at this; exact this
  · rw [h4]; exact own_setCell h.rt hg (by decide)
  · rw [hl]; exact h.zf
theorem DiskIn.frozenF {Z : Nat → Prop} {w : World} {p g cap n : Nat} {D : Dk} {vn vs vt : Value} (h : DiskIn Z w p D (.slice (some ⟨g, 0, none⟩) n cap) vn vs vt) (o : Nat) : w.frozen? ⟨g, o, none⟩ = false := by
  rcases h.rf.2 with ⟨hv, _⟩ | ⟨g2, cap2, cur, hv, _, hg, _⟩
  · simp at hv
  · injection hv with h3 h4 h5
    simp at h3
    subst h3
    exact frozen_of_row _ _ _ _ _ hg

/-- The disk behind Sync, and what is answered. -/
def Dk.syncs (D : Dk) (n : ByteArray) : Bool := D.may && there D.now n
def Dk.sync (D : Dk) (n : ByteArray) : Dk :=
  if D.syncs n = true then { D.chg with files := D.files.set (D.at n) { fl D.files (D.at n) with s := (fl D.files (D.at n)).d.size } } else D.chg

set_option maxRecDepth 20000 in
set_option maxHeartbeats 1600000 in
theorem Sync_any (Z : Nat → Prop) (p : Nat) (D : Dk) (n : ByteArray) (w : World) (h : DiskAt Z w p D) (hok : D.OK) :
    Calls Tryz.prog 176 #[.pointer (some ⟨p, 0, none⟩), .string n] w fun e w' => e = .returned (.bool (D.syncs n)) ∧ DiskAt Z w' p (D.sync n) ∧ Tr Z w w' := by
  go_enter Tryz.func176, Tryz.ntmps176
  go_wp2_with fail
  refine (changes_any Z p D w h hok.fit).mono ?_
  rintro e w1 ⟨rfl, h1, t1⟩
  clear h
  obtain ⟨vf, vn, vs, vt, h1⟩ := h1
  have hN := h1.rn
  obtain ⟨af, cf, rfl, hF⟩ := h1.file
  obtain ⟨an, cn, rfl, hA⟩ := h1.name
  have c1 : w1.cell? ⟨p, 1, none⟩ = some (.slice af D.chg.files.length cf) := (h1.cell 1).trans rfl
  have c2 : w1.cell? ⟨p, 2, none⟩ = some (.slice an D.chg.now.length cn) := (h1.cell 2).trans rfl
  have HD : Hid (DiskIn Z w1 p D.chg (.slice af D.chg.files.length cf) (.slice an D.chg.now.length cn) vs vt) := h1
  clear h1
  rw [D.chg_files, D.chg_now] at HD
  rw [D.chg_files] at c1
  rw [D.chg_now] at c2 hN
  rw [D.chg_files] at hF
  rw [D.chg_now] at hA
  go_wp2_with fail
  refine (find_any _ D.now n w1 hN hok.ln).mono ?_
  rintro e w2 ⟨rfl, hb⟩
  have HD2 : Hid (DiskIn Z w2 p D.chg (.slice af D.files.length cf) (.slice an D.now.length cn) vs vt) := HD.out.below hb
  have t2 : Tr Z w w2 := t1.trans (below_tr hb Z)
  have d1 := cell_later hb c1
  have d2 := cell_later hb c2
  by_cases hm : D.may = true
  rotate_left
  · have hm' : D.may = false := by simpa using hm
    have HM : Hid (D.syncs n = false ∧ D.sync n = D.chg) := by
      have : D.syncs n = false := by simp [Dk.syncs, hm']
      exact ⟨this, by unfold Dk.sync; rw [this]; rfl⟩
    rw [hm']
    clear hm hm' hF hA hN hb HD c1 c2
    go_wp2
    go_ret
    exact ⟨by rw [HM.out.1]; rfl, by rw [HM.out.2]; exact ⟨_, _, _, _, HD2.out⟩, t2⟩
  by_cases ht : there D.now n = true
  rotate_left
  · have ht' : there D.now n = false := by simpa using ht
    have HM : Hid (D.syncs n = false ∧ D.sync n = D.chg) := by
      have : D.syncs n = false := by simp [Dk.syncs, ht']
      exact ⟨this, by unfold Dk.sync; rw [this]; rfl⟩
    rw [ht', hm]
    clear hm ht ht' hF hA hN hb HD c1 c2
    go_wp2
    go_ret
    exact ⟨by rw [HM.out.1]; rfl, by rw [HM.out.2]; exact ⟨_, _, _, _, HD2.out⟩, t2⟩
  have hlt := there_lt ht
  have hfk := hok.file hlt
  obtain ⟨gn, rfl, hn⟩ := hA (by omega)
  obtain ⟨gf, rfl, hf⟩ := hF (by omega)
  have e1 := cell_later hb (hn _ hlt).2
  have e2 := cell_later hb (hf _ hfk).1
  have e3 := cell_later hb (hf _ hfk).2
  have k0 : (0 : Int) ≤ (fd D.now n : Int) := by omega
  have k1 : (fd D.now n : Int) < (D.now.length : Int) := by omega
  have f0 : (0 : Int) ≤ ((nm D.now (fd D.now n)).f : Int) := by omega
  have f1 : ((nm D.now (fd D.now n)).f : Int) < (D.files.length : Int) := by omega
  have HM : Hid (D.syncs n = true) := by show D.syncs n = true; simp [Dk.syncs, hm, ht]
  have HX : Hid (D.sync n = { D.chg with files := D.files.set (nm D.now (fd D.now n)).f { fl D.files (nm D.now (fd D.now n)).f with s := (fl D.files (nm D.now (fd D.now n)).f).d.size } }) := by
    show D.sync n = _
    unfold Dk.sync
    rw [if_pos HM.out]
    rfl
  have HS : Hid (cellsF (D.files.set (nm D.now (fd D.now n)).f { fl D.files (nm D.now (fd D.now n)).f with s := (fl D.files (nm D.now (fd D.now n)).f).d.size }) = (cellsF D.files).set ((nm D.now (fd D.now n)).f * 2 + 1) (.int .i64 (fl D.files (nm D.now (fd D.now n)).f).d.size)) := by
    show _ = _
    have hq := (cellsF_at D.files _ hfk).1
    rw [← cellsF_set _ _ _ hfk]
    congr 1
    obtain ⟨hq1, hq2⟩ := List.getElem?_eq_some_iff.1 hq
    rw [← hq2]
    exact List.set_getElem_self hq1
  have hfz := HD2.out.frozenF ((nm D.now (fd D.now n)).f * 2 + 1)
  obtain ⟨j, hj⟩ : ∃ j, (nm D.now (fd D.now n)).f = j := ⟨_, rfl⟩
  rw [hj] at e1 e2 e3 f0 f1 HX HS hfz hfk
  obtain ⟨F, hFl⟩ : ∃ F, fl D.files j = F := ⟨_, rfl⟩
  rw [hFl] at e2 e3 HX HS
  rw [hm, ht]
  have HZ : Hid (Z gf) := HD2.out.zf gf rfl
  clear hm ht hF hA hN hb HD c1 c2 hn hf hj hFl
  go_wp2_with fail
  go_quiet (fail)
  go_wp2
  go_ret
  refine ⟨by rw [HM.out]; rfl, ?_, (t2.drewN nq).setCell HZ.out _⟩
  rw [HX.out]
  exact ⟨_, _, _, _, DiskIn.setFile (D := D.chg) (HD2.out.below (below_drewN (Below.refl _ _) nq)) (by rw [D.chg_files]) (by rw [D.chg_files]; omega) (by rw [D.chg_files]; simp) (by rw [D.chg_files]; exact HS.out) rfl rfl rfl (fun _ _ _ _ => rfl)⟩
end Go.Proofs.YtilkdeghknjjhaaGreatDoor
/- The disk: SyncDir, Append. -/
namespace Go.Proofs.YtilkdeghknjjhaaGreatDoor
open Go.RowKit
set_option linter.unusedVariables false

/-- The disk behind SyncDir. -/
def Dk.syncDir (D : Dk) : Dk := if D.may = true then { D.chg with safe := D.now, steps := [] } else D.chg

set_option maxRecDepth 20000 in
set_option maxHeartbeats 1600000 in
theorem SyncDir_any (Z : Nat → Prop) (p : Nat) (D : Dk) (w : World) (h : DiskAt Z w p D) (hok : D.OK) :
    Calls Tryz.prog 118 #[.pointer (some ⟨p, 0, none⟩)] w fun e w' => e = .returned (.bool D.may) ∧ DiskAt Z w' p D.syncDir ∧ Tr Z w w' := by
  go_enter Tryz.func118, Tryz.ntmps118
  go_wp2_with fail
  refine (changes_any Z p D w h hok.fit).mono ?_
  rintro e w1 ⟨rfl, h1, t1⟩
  clear h
  obtain ⟨vf, vn, vs, vt, h1⟩ := h1
  have c2 : w1.cell? ⟨p, 2, none⟩ = some vn := (h1.cell 2).trans rfl
  have c3 : w1.cell? ⟨p, 3, none⟩ = some vs := (h1.cell 3).trans rfl
  have c4 : w1.cell? ⟨p, 4, none⟩ = some vt := (h1.cell 4).trans rfl
  have fz := h1.frozen
  have HD : Hid (DiskIn Z w1 p D.chg vf vn vs vt) := h1
  obtain ⟨a1, n1, q1, rfl⟩ : ∃ a n q, vn = .slice a n q := by obtain ⟨a, q, h, _⟩ := own_cells h1.rn; exact ⟨_, _, _, h⟩
  obtain ⟨a2, n2, q2, rfl⟩ : ∃ a n q, vs = .slice a n q := by obtain ⟨a, q, h, _⟩ := own_cells h1.rs; exact ⟨_, _, _, h⟩
  obtain ⟨a3, n3, q3, rfl⟩ : ∃ a n q, vt = .slice a n q := by obtain ⟨a, q, h, _⟩ := own_cells h1.rt; exact ⟨_, _, _, h⟩
  clear h1
  by_cases hm : D.may = true
  rotate_left
  · have hm' : D.may = false := by simpa using hm
    have HM : Hid (D.may = false ∧ D.syncDir = D.chg) := ⟨hm', by unfold Dk.syncDir; rw [hm']; rfl⟩
    rw [hm']
    clear hm hm'
    go_wp2
    go_ret
    exact ⟨by rw [HM.out.1]; rfl, by rw [HM.out.2]; exact ⟨_, _, _, _, HD.out⟩, t1⟩
  have HM : Hid (D.may = true ∧ D.syncDir = { D.chg with safe := D.now, steps := [] }) := ⟨hm, by unfold Dk.syncDir; rw [if_pos hm]⟩
  rw [hm]
  clear hm
  go_wp2
  go_ret
  refine ⟨by rw [HM.out.1]; rfl, ?_, (t1.setCell HD.out.zp _).setCell HD.out.zp _⟩
  rw [HM.out.2]
  obtain ⟨zp, hp, rf, rn, rs, rt, zf, zn, zs, zt⟩ := HD.out
  refine ⟨vf, .slice a1 n1 q1, .slice a1 n1 q1, .slice none 0 0, zp, ?_, ?_, ?_, ?_, World.ownsRow_nil _ _ _ _, zf, zn, zn, fun k hk => by simp [Value.ownBlock] at hk⟩
  · rw [heap_setCell_self (heap_setCell_self hp 3 _) 4 _]; rfl
  · exact own_setCell (own_setCell rf hp (by decide)) (heap_setCell_self hp 3 _) (by decide)
  · exact own_setCell (own_setCell rn hp (by decide)) (heap_setCell_self hp 3 _) (by decide)
  · rw [D.chg_now] at rn
    exact own_setCell (own_setCell rn hp (by decide)) (heap_setCell_self hp 3 _) (by decide)
/-- The disk behind Append, and what is answered. -/
def Dk.appends (D : Dk) (n t : ByteArray) : Bool := D.may && there D.now n && decide ((t.size : Int) ≤ D.cap - D.bytes)
def Dk.append (D : Dk) (n t : ByteArray) : Dk :=
  if D.appends n t = true then { D.chg with files := D.files.set (D.at n) { fl D.files (D.at n) with d := (fl D.files (D.at n)).d ++ t } } else D.chg

set_option maxRecDepth 20000 in
set_option maxHeartbeats 1600000 in
theorem Append_any (Z : Nat → Prop) (p : Nat) (D : Dk) (n t : ByteArray) (w : World) (h : DiskAt Z w p D) (hok : D.OK) (hf : D.failed < 1000000000000000) (hts : t.size ≤ 1000000000) :
    Calls Tryz.prog 194 #[.pointer (some ⟨p, 0, none⟩), .string n, .string t] w fun e w' => e = .returned (.bool (D.appends n t)) ∧ DiskAt Z w' p (D.append n t) ∧ Tr Z w w' := by
  go_enter Tryz.func194, Tryz.ntmps194
  go_wp2_with fail
  refine (changes_any Z p D w h hok.fit).mono ?_
  rintro e w1 ⟨rfl, h1, t1⟩
  clear h
  obtain ⟨vf, vn, vs, vt, h1⟩ := h1
  have hN := h1.rn
  obtain ⟨af, cf, rfl, hF⟩ := h1.file
  obtain ⟨an, cn, rfl, hA⟩ := h1.name
  have c2 : w1.cell? ⟨p, 2, none⟩ = some (.slice an D.chg.now.length cn) := (h1.cell 2).trans rfl
  have HD : Hid (DiskIn Z w1 p D.chg (.slice af D.chg.files.length cf) (.slice an D.chg.now.length cn) vs vt) := h1
  clear h1
  rw [D.chg_files, D.chg_now] at HD
  rw [D.chg_now] at c2 hN
  rw [D.chg_files] at hF
  rw [D.chg_now] at hA
  go_wp2_with fail
  refine (find_any _ D.now n w1 hN hok.ln).mono ?_
  rintro e w2 ⟨rfl, hb⟩
  have HD2 : Hid (DiskIn Z w2 p D.chg (.slice af D.files.length cf) (.slice an D.now.length cn) vs vt) := HD.out.below hb
  have t2 : Tr Z w w2 := t1.trans (below_tr hb Z)
  by_cases hm : D.may = true
  rotate_left
  · have hm' : D.may = false := by simpa using hm
    have HM : Hid (D.appends n t = false ∧ D.append n t = D.chg) := by
      have : D.appends n t = false := by simp [Dk.appends, hm']
      exact ⟨this, by unfold Dk.append; rw [this]; rfl⟩
    rw [hm']
    clear hm hm' hF hA hN hb HD c2
    go_wp2
    go_ret
    exact ⟨by rw [HM.out.1]; rfl, by rw [HM.out.2]; exact ⟨_, _, _, _, HD2.out⟩, t2⟩
  by_cases ht : there D.now n = true
  rotate_left
  · have ht' : there D.now n = false := by simpa using ht
    have HM : Hid (D.appends n t = false ∧ D.append n t = D.chg) := by
      have : D.appends n t = false := by simp [Dk.appends, ht']
      exact ⟨this, by unfold Dk.append; rw [this]; rfl⟩
    rw [ht', hm]
    clear hm ht ht' hF hA hN hb HD c2
    go_wp2
    go_ret
    exact ⟨by rw [HM.out.1]; rfl, by rw [HM.out.2]; exact ⟨_, _, _, _, HD2.out⟩, t2⟩
  have hokc := hok.chg hf
  have hlt := there_lt ht
  have hfk := hok.file hlt
  obtain ⟨gn, rfl, hn⟩ := hA (by omega)
  obtain ⟨gf, rfl, hf⟩ := hF (by omega)
  rw [ht, hm]
  have HMT : Hid (D.may = true ∧ there D.now n = true) := ⟨hm, ht⟩
  have hL : Calls Tryz.prog 72 #[.pointer (some ⟨p, 0, none⟩)] w2 fun e w' => e = .returned (.int .i64 (D.cap - D.bytes)) ∧ Below w2.heap.size w2 w' := by
    have := Left_any Z p D.chg w2 ⟨_, _, _, _, HD2.out⟩ hokc
    rw [D.chg_cap, D.chg_bytes] at this
    exact this
  have HH : Hid ((w1.cell? ⟨gn, fd D.now n * 2 + 1, none⟩ = some (.int .i64 (nm D.now (fd D.now n)).f)) ∧ w1.cell? ⟨gf, (nm D.now (fd D.now n)).f * 2, none⟩ = some (.string (fl D.files (nm D.now (fd D.now n)).f).d)) := ⟨(hn _ hlt).2, (hf _ hfk).1⟩
  clear hm ht hF hA hN HD c2 hn hf
  go_wp2_with fail
  refine hL.mono ?_
  rintro e w3 ⟨rfl, hb3⟩
  clear hL
  have HD3 : Hid (DiskIn Z w3 p D.chg (.slice (some ⟨gf, 0, none⟩) D.files.length cf) (.slice (some ⟨gn, 0, none⟩) D.now.length cn) vs vt) := HD2.out.below hb3
  have t3 : Tr Z w w3 := t2.trans (below_tr hb3 Z)
  by_cases hroom : (t.size : Int) ≤ D.cap - D.bytes
  rotate_left
  · have HM : Hid (D.appends n t = false ∧ D.append n t = D.chg) := by
      have : D.appends n t = false := by simp [Dk.appends, hroom]
      exact ⟨this, by unfold Dk.append; rw [this]; rfl⟩
    have hr2 : D.cap - D.bytes < (t.size : Int) := by omega
    clear hb hb3 HD2 HH hroom
    go_wp2
    go_ret
    exact ⟨by rw [HM.out.1]; rfl, by rw [HM.out.2]; exact ⟨_, _, _, _, HD3.out⟩, t3⟩
  have HM : Hid (D.appends n t = true) := by show D.appends n t = true; simp [Dk.appends, HMT.out.1, HMT.out.2, hroom]
  have d1 : w3.cell? ⟨p, 1, none⟩ = some (.slice (some ⟨gf, 0, none⟩) D.files.length cf) := (HD3.out.cell 1).trans rfl
  have d2 : w3.cell? ⟨p, 2, none⟩ = some (.slice (some ⟨gn, 0, none⟩) D.now.length cn) := (HD3.out.cell 2).trans rfl
  have e1 := cell_later hb3 (cell_later hb HH.out.1)
  have e2 := cell_later hb3 (cell_later hb HH.out.2)
  have k0 : (0 : Int) ≤ (fd D.now n : Int) := by omega
  have k1 : (fd D.now n : Int) < (D.now.length : Int) := by omega
  have f0 : (0 : Int) ≤ ((nm D.now (fd D.now n)).f : Int) := by omega
  have f1 : ((nm D.now (fd D.now n)).f : Int) < (D.files.length : Int) := by omega
  have hz := hok.size (nm D.now (fd D.now n)).f
  have HX : Hid (D.append n t = { D.chg with files := D.files.set (nm D.now (fd D.now n)).f { fl D.files (nm D.now (fd D.now n)).f with d := (fl D.files (nm D.now (fd D.now n)).f).d ++ t } }) := by
    show D.append n t = _
    unfold Dk.append
    rw [if_pos HM.out]
    rfl
  have HS : Hid (cellsF (D.files.set (nm D.now (fd D.now n)).f { fl D.files (nm D.now (fd D.now n)).f with d := (fl D.files (nm D.now (fd D.now n)).f).d ++ t }) = (cellsF D.files).set ((nm D.now (fd D.now n)).f * 2) (.string ((fl D.files (nm D.now (fd D.now n)).f).d ++ t))) := by
    show _ = _
    have hq := (cellsF_at D.files _ hfk).2
    rw [← cellsF_set _ _ _ hfk]
    obtain ⟨hq1, hq2⟩ := List.getElem?_eq_some_iff.1 hq
    show ((cellsF D.files).set _ _).set _ (.int .i64 (fl D.files (nm D.now (fd D.now n)).f).s) = _
    rw [← hq2]
    rw [List.set_comm _ _ (by omega), List.set_getElem_self hq1]
  have hfz := HD3.out.frozenF ((nm D.now (fd D.now n)).f * 2)
  obtain ⟨j, hj⟩ : ∃ j, (nm D.now (fd D.now n)).f = j := ⟨_, rfl⟩
  rw [hj] at e1 e2 f0 f1 HX HS hfz hfk hz
  obtain ⟨F, hFl⟩ : ∃ F, fl D.files j = F := ⟨_, rfl⟩
  rw [hFl] at e2 HX HS hz
  have HZ : Hid (Z gf) := HD3.out.zf gf rfl
  have hsum : ¬ 1125899906842624 < F.d.size + t.size := by omega
  clear hb hb3 HD2 HH hj hFl HMT
  go_upto_region 5 with (fail)
  go_quiet (fail)
  go_wp2
  go_ret
  refine ⟨by rw [HM.out]; rfl, ?_, (t3.drewN nq).setCell HZ.out _⟩
  rw [HX.out]
  exact ⟨_, _, _, _, DiskIn.setFile (D := D.chg) (HD3.out.below (below_drewN (Below.refl _ _) nq)) (by rw [D.chg_files]) (by rw [D.chg_files]; omega) (by rw [D.chg_files]; simp) (by rw [D.chg_files]; exact HS.out) rfl rfl rfl (fun _ _ _ _ => rfl)⟩
end Go.Proofs.YtilkdeghknjjhaaGreatDoor
