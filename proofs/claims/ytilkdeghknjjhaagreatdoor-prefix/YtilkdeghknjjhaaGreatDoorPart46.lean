/- The journal's files on a disk that fails and crashes: records, files, one call each. Plain facts. -/
import Derived.Test.YtilkdeghknjjhaaGreatDoorPart44
import Derived.Test.YtilkdeghknjjhaaGreatDoorPart41
import Derived.Test.YtilkdeghknjjhaaGreatDoorPart33
namespace Go.Proofs.YtilkdeghknjjhaaGreatDoor
open Go.RowKit M
set_option linter.unusedVariables false

/-- The text of some records. -/
noncomputable def encs (ms : List Mt) : Bs := ms.flatMap encB
theorem encs_nil : encs [] = [] := rfl
theorem encs_cons (m : Mt) (ms : List Mt) : encs (m :: ms) = encB m ++ encs ms := rfl
theorem encs_app (a b : List Mt) : encs (a ++ b) = encs a ++ encs b := by simp [encs]
/-- What a crash may leave of a record: less than all of it. -/
def Tail (t : Bs) : Prop := t = [] ∨ ∃ m : Mt, m.OK ∧ ∃ n, n < (encB m).length ∧ t = (encB m).take n
theorem Tail.nil : Tail [] := .inl rfl
theorem Tail.take {t : Bs} (h : Tail t) (n : Nat) : Tail (t.take n) := by
  rcases h with rfl | ⟨m, hm, k, hk, rfl⟩
  · rw [List.take_nil]; exact .inl rfl
  · rw [List.take_take]; exact .inr ⟨m, hm, min n k, by omega, rfl⟩
/-- A text of records that is cut off is one of the first of them, and a part of the next. -/
theorem cut_encs : ∀ (ms : List Mt) (t : Bs) (n : Nat), (∀ m ∈ ms, m.OK) → Tail t → ∃ p t', p ≤ ms.length ∧ Tail t' ∧ (encs ms ++ t).take n = encs (ms.take p) ++ t' ∧ (∀ q, q ≤ ms.length → (encs (ms.take q)).length ≤ n → q ≤ p)
  | [], t, n, _, ht => ⟨0, t.take n, Nat.le_refl _, ht.take n, by simp [encs_nil], fun q hq _ => hq⟩
  | m :: ms, t, n, hm, ht => by
    by_cases hn : n < (encB m).length
    · refine ⟨0, (encB m).take n, Nat.zero_le _, .inr ⟨m, hm m (by simp), n, hn, rfl⟩, ?_, fun q hq hl => ?_⟩
      · rw [encs_cons, List.append_assoc, List.take_append_of_le_length (by omega)]
        simp [encs_nil]
      · cases q with
        | zero => exact Nat.le_refl _
        | succ q =>
          rw [List.take_succ_cons, encs_cons, List.length_append] at hl
          omega
    · obtain ⟨p, t', h1, h2, h3, h4⟩ := cut_encs ms t (n - (encB m).length) (fun x hx => hm x (by simp [hx])) ht
      refine ⟨p + 1, t', by simp; omega, h2, ?_, fun q hq hl => ?_⟩
      · rw [encs_cons, List.append_assoc, List.take_append, List.take_of_length_le (by omega), h3, List.take_succ_cons, encs_cons, List.append_assoc]
      · cases q with
        | zero => omega
        | succ q =>
          rw [List.take_succ_cons, encs_cons, List.length_append] at hl
          have := h4 q (by simp at hq; omega) (by omega)
          omega
/-- All records of the first k files. -/
def allB (B : Nat → List Mt) : Nat → List Mt
  | 0 => []
  | k + 1 => allB B k ++ B (k + 1)
theorem allB_congr {B C : Nat → List Mt} : ∀ k, (∀ i, 1 ≤ i → i ≤ k → B i = C i) → allB B k = allB C k
  | 0, _ => rfl
  | k + 1, h => by
    show allB B k ++ B (k + 1) = allB C k ++ C (k + 1)
    rw [allB_congr k (fun i h1 h2 => h i h1 (by omega)), h (k + 1) (by omega) (Nat.le_refl _)]
theorem allB_prefix (B : Nat → List Mt) : ∀ (k j : Nat), j ≤ k → allB B j <+: allB B k
  | 0, j, h => by rw [show j = 0 by omega]; exact List.prefix_refl _
  | k + 1, j, h => by
    by_cases e : j = k + 1
    · subst e; exact List.prefix_refl _
    · exact (allB_prefix B k j (by omega)).trans (List.prefix_append _ _)

/-- The journal's files on a disk: k of them, a of which a crash holds for sure; the records of each, and what is behind them. -/
structure Files (D : Dk) (k a : Nat) (F : Nat → Nat) (B : Nat → List Mt) (T : Nat → Bs) : Prop where
  ak : a ≤ k
  kf : k ≤ D.files.length
  srt : Srt D.now
  srs : Srt D.safe
  now : ∀ x, x ∈ D.now ↔ ∃ i, 1 ≤ i ∧ i ≤ k ∧ x = ⟨fnm i, F i⟩
  safe : ∀ x, x ∈ D.safe ↔ ∃ i, 1 ≤ i ∧ i ≤ a ∧ x = ⟨fnm i, F i⟩
  steps : D.steps = (List.range (k - a)).map fun i => ⟨1, ByteArray.empty, fnm (a + 1 + i), F (a + 1 + i)⟩
  inj : ∀ i j, 1 ≤ i → i ≤ k → 1 ≤ j → j ≤ k → F i = F j → i = j
  lt : ∀ i, 1 ≤ i → i ≤ k → F i < D.files.length
  dat : ∀ i, 1 ≤ i → i ≤ k → bs (fl D.files (F i)).d = encs (B i) ++ T i
  ok : ∀ i, 1 ≤ i → i ≤ k → (∀ m ∈ B i, m.OK) ∧ Tail (T i)
  syn : ∀ i, 1 ≤ i → i < k → (fl D.files (F i)).s = (fl D.files (F i)).d.size
  syk : ∀ i, 1 ≤ i → i ≤ k → (fl D.files (F i)).s ≤ (fl D.files (F i)).d.size
  bnd : ∀ i, 1 ≤ i → i ≤ k → (fl D.files (F i)).d.size ≤ 100000
/-- So many records a crash holds for sure. -/
def Sure (D : Dk) (a : Nat) (F : Nat → Nat) (B : Nat → List Mt) (hd : Nat) : Prop :=
  ∃ p, hd ≤ (allB B (a - 1)).length + p ∧ (a = 0 → p = 0) ∧ (1 ≤ a → p ≤ (B a).length ∧ (encs ((B a).take p)).length ≤ (fl D.files (F a)).s)
theorem Files.of {D E : Dk} {k a : Nat} {F : Nat → Nat} {B : Nat → List Mt} {T : Nat → Bs} (h : Files D k a F B T) (h1 : E.files = D.files) (h2 : E.now = D.now) (h3 : E.safe = D.safe) (h4 : E.steps = D.steps) : Files E k a F B T :=
  ⟨h.ak, h1 ▸ h.kf, h2 ▸ h.srt, h3 ▸ h.srs, h2 ▸ h.now, h3 ▸ h.safe, h4.trans h.steps, h.inj, h1 ▸ h.lt, h1 ▸ h.dat, h.ok, h1 ▸ h.syn, h1 ▸ h.syk, h1 ▸ h.bnd⟩
theorem Sure.of {D E : Dk} {a hd : Nat} {F : Nat → Nat} {B : Nat → List Mt} (h : Sure D a F B hd) (h1 : E.files = D.files) : Sure E a F B hd := by
  unfold Sure at h ⊢; rw [h1]; exact h
theorem Files.chg {D : Dk} {k a : Nat} {F : Nat → Nat} {B : Nat → List Mt} {T : Nat → Bs} (h : Files D k a F B T) : Files D.chg k a F B T := h.of D.chg_files D.chg_now D.chg_safe D.chg_steps
theorem Sure.chg {D : Dk} {a hd : Nat} {F : Nat → Nat} {B : Nat → List Mt} (h : Sure D a F B hd) : Sure D.chg a F B hd := h.of D.chg_files
theorem fl_set {l : List Fl} {i j : Nat} {x : Fl} (h : i < l.length) : fl (l.set i x) j = if j = i then x else fl l j := by
  unfold fl
  rw [List.getD_eq_getElem?_getD, List.getD_eq_getElem?_getD, List.getElem?_set]
  by_cases e : i = j
  · subst e; simp [h]
  · rw [if_neg e, if_neg (fun h => e h.symm)]
/-- The k-th file is there, and where. -/
theorem Files.at_ {D : Dk} {k a : Nat} {F : Nat → Nat} {B : Nat → List Mt} {T : Nat → Bs} (h : Files D k a F B T) {i : Nat} (h1 : 1 ≤ i) (h2 : i ≤ k) : there D.now (fnm i) = true ∧ D.at (fnm i) = F i := by
  obtain ⟨h3, h4⟩ := mem_at h.srt ((h.now ⟨fnm i, F i⟩).2 ⟨i, h1, h2, rfl⟩)
  refine ⟨h3, ?_⟩
  have h4 : nm D.now (fd D.now (fnm i)) = ⟨fnm i, F i⟩ := h4
  unfold Dk.at
  rw [h4]
theorem Files.sizeOf {D : Dk} {k a : Nat} {F : Nat → Nat} {B : Nat → List Mt} {T : Nat → Bs} (h : Files D k a F B T) {i : Nat} (h1 : 1 ≤ i) (h2 : i ≤ k) : D.sizeOf (fnm i) = (fl D.files (F i)).d.size := by
  unfold Dk.sizeOf; rw [(h.at_ h1 h2).2]
/-- Behind one that is synced nothing else has turned. -/
theorem Files.sync {D : Dk} {k a : Nat} {F : Nat → Nat} {B : Nat → List Mt} {T : Nat → Bs} (h : Files D k a F B T) (hk : 1 ≤ k) :
    Files (D.sync (fnm k)) k a F B T ∧ (D.syncs (fnm k) = true → (fl (D.sync (fnm k)).files (F k)).s = (fl (D.sync (fnm k)).files (F k)).d.size) ∧ (∀ hd, Sure D a F B hd → Sure (D.sync (fnm k)) a F B hd) := by
  obtain ⟨ht, ha⟩ := h.at_ hk (Nat.le_refl _)
  have hlt := h.lt k hk (Nat.le_refl _)
  unfold Dk.sync
  by_cases hs : D.syncs (fnm k) = true
  · rw [if_pos hs, ha]
    have e : ∀ j, fl (D.files.set (F k) { fl D.files (F k) with s := (fl D.files (F k)).d.size }) j = if j = F k then { fl D.files (F k) with s := (fl D.files (F k)).d.size } else fl D.files j := fun j => fl_set hlt
    have ed : ∀ j, (fl (D.files.set (F k) { fl D.files (F k) with s := (fl D.files (F k)).d.size }) j).d = (fl D.files j).d := fun j => by
      rw [e]; split
      · rename_i hj; rw [hj]
      · rfl
    refine ⟨⟨h.ak, by show k ≤ (D.files.set _ _).length; rw [List.length_set]; exact h.kf, by show Srt D.chg.now; rw [D.chg_now]; exact h.srt, by show Srt D.chg.safe; rw [D.chg_safe]; exact h.srs, by show ∀ x, x ∈ D.chg.now ↔ _; rw [D.chg_now]; exact h.now, by show ∀ x, x ∈ D.chg.safe ↔ _; rw [D.chg_safe]; exact h.safe, D.chg_steps.trans h.steps, h.inj, fun i h1 h2 => by show _ < (D.files.set _ _).length; rw [List.length_set]; exact h.lt i h1 h2, fun i h1 h2 => by rw [ed]; exact h.dat i h1 h2, h.ok, fun i h1 h2 => ?_, fun i h1 h2 => ?_, fun i h1 h2 => by rw [ed]; exact h.bnd i h1 h2⟩, fun _ => ?_, fun hd hh => ?_⟩
    · show (fl (D.files.set _ _) (F i)).s = (fl (D.files.set _ _) (F i)).d.size
      rw [ed, e]; split
      · rename_i hj; rw [hj]
      · exact h.syn i h1 h2
    · show (fl (D.files.set _ _) (F i)).s ≤ (fl (D.files.set _ _) (F i)).d.size
      rw [ed, e]; split
      · rename_i hj; rw [hj]; exact Nat.le_refl _
      · exact h.syk i h1 h2
    · show (fl (D.files.set _ _) (F k)).s = (fl (D.files.set _ _) (F k)).d.size
      rw [ed, e, if_pos rfl]
    · obtain ⟨p, h1, h2, h3⟩ := hh
      refine ⟨p, h1, h2, fun h4 => ⟨(h3 h4).1, Nat.le_trans (h3 h4).2 ?_⟩⟩
      show _ ≤ (fl (D.files.set _ _) (F a)).s
      rw [e]; split
      · rename_i hj; rw [hj]; exact h.syk k hk (Nat.le_refl _)
      · exact Nat.le_refl _
  · rw [if_neg hs]
    exact ⟨h.chg, fun hh => absurd hh hs, fun hd hh => hh.chg⟩
/-- All names are sure. -/
theorem Files.syncDir {D : Dk} {k a : Nat} {F : Nat → Nat} {B : Nat → List Mt} {T : Nat → Bs} (h : Files D k a F B T) (hm : D.may = true) : Files D.syncDir k k F B T := by
  unfold Dk.syncDir
  rw [if_pos hm]
  exact ⟨Nat.le_refl _, by show k ≤ D.chg.files.length; rw [D.chg_files]; exact h.kf, by show Srt D.chg.now; rw [D.chg_now]; exact h.srt, h.srt, by show ∀ x, x ∈ D.chg.now ↔ _; rw [D.chg_now]; exact h.now, h.now, by show ([] : List Stp) = _; simp, h.inj, by show ∀ i, _ → _ → _ < D.chg.files.length; rw [D.chg_files]; exact h.lt, by show ∀ i, _ → _ → bs (fl D.chg.files _).d = _; rw [D.chg_files]; exact h.dat, h.ok, by show ∀ i, _ → _ → (fl D.chg.files _).s = (fl D.chg.files _).d.size; rw [D.chg_files]; exact h.syn, by show ∀ i, _ → _ → (fl D.chg.files _).s ≤ (fl D.chg.files _).d.size; rw [D.chg_files]; exact h.syk, by show ∀ i, _ → _ → (fl D.chg.files _).d.size ≤ _; rw [D.chg_files]; exact h.bnd⟩
theorem upd_at {α : Type} (f : Nat → α) (k : Nat) (v : α) (i : Nat) : (fun j => if j = k then v else f j) i = if i = k then v else f i := rfl
/-- Another file is begun, behind one that is sure. -/
theorem Files.create {D : Dk} {k a : Nat} {F : Nat → Nat} {B : Nat → List Mt} {T : Nat → Bs} (h : Files D k a F B T) (hw : D.WF) (hk : k < 1000000000) (hs : 1 ≤ k → (fl D.files (F k)).s = (fl D.files (F k)).d.size) (hc : D.creates (fnm (k + 1)) = true) :
    Files (D.create (fnm (k + 1))) (k + 1) a (fun j => if j = k + 1 then D.files.length else F j) (fun j => if j = k + 1 then [] else B j) (fun j => if j = k + 1 then [] else T j) ∧ (fl (D.create (fnm (k + 1))).files D.files.length).d.size = 0 ∧ (∀ hd, Sure D a F B hd → Sure (D.create (fnm (k + 1))) a (fun j => if j = k + 1 then D.files.length else F j) (fun j => if j = k + 1 then [] else B j) hd) := by
  obtain ⟨e1, e2, _⟩ := Dk.create_now hw hc
  have hak := h.ak
  unfold Dk.create
  rw [if_pos hc, e1]
  have fo : ∀ j, j < D.files.length → fl (D.files ++ [Fl.z]) j = fl D.files j := fun j hj => by
    unfold fl; rw [List.getD_eq_getElem?_getD, List.getD_eq_getElem?_getD, List.getElem?_append_left hj]
  have fn : fl (D.files ++ [Fl.z]) D.files.length = Fl.z := by unfold fl; rw [List.getD_eq_getElem?_getD]; simp
  have low : ∀ i, i ≤ k → (if i = k + 1 then D.files.length else F i) = F i := fun i hi => if_neg (by omega)
  refine ⟨⟨by omega, by show k + 1 ≤ (D.files ++ [Fl.z]).length; rw [List.length_append]; exact Nat.succ_le_succ h.kf, srt_ins h.srt e2, by show Srt D.chg.safe; rw [D.chg_safe]; exact h.srs, fun x => ?_, fun x => ?_, ?_, fun i j h1 h2 h3 h4 he => ?_, fun i h1 h2 => ?_, fun i h1 h2 => ?_, fun i h1 h2 => ?_, fun i h1 h2 => ?_, fun i h1 h2 => ?_, fun i h1 h2 => ?_⟩, ?_, fun hd hh => ?_⟩
  · show x ∈ insN D.now _ ↔ _
    rw [mem_ins, h.now]
    constructor
    · rintro (rfl | ⟨i, h1, h2, rfl⟩)
      · exact ⟨k + 1, by omega, Nat.le_refl _, by rw [if_pos rfl]⟩
      · exact ⟨i, h1, by omega, by rw [low i h2]⟩
    · rintro ⟨i, h1, h2, rfl⟩
      by_cases hi : i = k + 1
      · left; rw [if_pos hi, hi]
      · right; exact ⟨i, h1, by omega, by rw [if_neg hi]⟩
  · show x ∈ D.chg.safe ↔ _
    rw [D.chg_safe, h.safe]
    constructor
    · rintro ⟨i, h1, h2, rfl⟩; exact ⟨i, h1, h2, by rw [low i (by omega)]⟩
    · rintro ⟨i, h1, h2, rfl⟩; exact ⟨i, h1, h2, by rw [low i (by omega)]⟩
  · show D.steps ++ [D.step1 (fnm (k + 1))] = _
    rw [h.steps, show k + 1 - a = (k - a) + 1 by omega, List.range_succ, List.map_append]
    congr 1
    · refine List.map_congr_left fun i hi => ?_
      have := List.mem_range.1 hi
      rw [low _ (by omega)]
    · show [D.step1 (fnm (k + 1))] = [⟨1, ByteArray.empty, fnm (a + 1 + (k - a)), if a + 1 + (k - a) = k + 1 then D.files.length else F (a + 1 + (k - a))⟩]
      rw [show a + 1 + (k - a) = k + 1 by omega, if_pos rfl]
      rfl
  · by_cases hi : i = k + 1
    · by_cases hj : j = k + 1
      · omega
      · rw [if_pos hi, if_neg hj] at he
        have := h.lt j h3 (by omega)
        have he : D.files.length = F j := he
        omega
    · by_cases hj : j = k + 1
      · rw [if_neg hi, if_pos hj] at he
        have := h.lt i h1 (by omega)
        have he : F i = D.files.length := he
        omega
      · rw [if_neg hi, if_neg hj] at he
        exact h.inj i j h1 (by omega) h3 (by omega) he
  · show (if i = k + 1 then D.files.length else F i) < (D.files ++ [Fl.z]).length
    rw [List.length_append]
    split
    · simp
    · have := h.lt i h1 (by omega); simp; omega
  · show bs (fl (D.files ++ [Fl.z]) (if i = k + 1 then D.files.length else F i)).d = encs (if i = k + 1 then [] else B i) ++ (if i = k + 1 then [] else T i)
    by_cases hi : i = k + 1
    · rw [if_pos hi, if_pos hi, if_pos hi, fn]; rfl
    · rw [if_neg hi, if_neg hi, if_neg hi, fo _ (h.lt i h1 (by omega))]; exact h.dat i h1 (by omega)
  · show (∀ m ∈ (if i = k + 1 then [] else B i), m.OK) ∧ Tail (if i = k + 1 then [] else T i)
    by_cases hi : i = k + 1
    · rw [if_pos hi, if_pos hi]; exact ⟨fun m hm => by simp at hm, .inl rfl⟩
    · rw [if_neg hi, if_neg hi]; exact h.ok i h1 (by omega)
  · show (fl (D.files ++ [Fl.z]) (if i = k + 1 then D.files.length else F i)).s = (fl (D.files ++ [Fl.z]) (if i = k + 1 then D.files.length else F i)).d.size
    rw [low i (by omega), fo _ (h.lt i h1 (by omega))]
    by_cases hi : i = k
    · subst hi; exact hs h1
    · exact h.syn i h1 (by omega)
  · show (fl (D.files ++ [Fl.z]) (if i = k + 1 then D.files.length else F i)).s ≤ (fl (D.files ++ [Fl.z]) (if i = k + 1 then D.files.length else F i)).d.size
    by_cases hi : i = k + 1
    · rw [if_pos hi, fn]; exact Nat.le_refl _
    · rw [if_neg hi, fo _ (h.lt i h1 (by omega))]; exact h.syk i h1 (by omega)
  · show (fl (D.files ++ [Fl.z]) (if i = k + 1 then D.files.length else F i)).d.size ≤ _
    by_cases hi : i = k + 1
    · rw [if_pos hi, fn]; exact Nat.zero_le _
    · rw [if_neg hi, fo _ (h.lt i h1 (by omega))]; exact h.bnd i h1 (by omega)
  · show (fl (D.files ++ [Fl.z]) D.files.length).d.size = 0
    rw [fn]; rfl
  · obtain ⟨p, h1, h2, h3⟩ := hh
    refine ⟨p, ?_, h2, fun h4 => ?_⟩
    · rw [allB_congr (B := fun j => if j = k + 1 then [] else B j) (C := B) (a - 1) (fun i _ hi => if_neg (by omega))]; exact h1
    · show p ≤ (if a = k + 1 then [] else B a).length ∧ (encs ((if a = k + 1 then [] else B a).take p)).length ≤ (fl (D.files ++ [Fl.z]) (if a = k + 1 then D.files.length else F a)).s
      rw [if_neg (by omega), if_neg (by omega), fo _ (h.lt a h4 hak)]
      exact h3 h4
/-- A record is written. -/
theorem Files.append {D : Dk} {k a : Nat} {F : Nat → Nat} {B : Nat → List Mt} {T : Nat → Bs} (h : Files D k a F B T) (hk : 1 ≤ k) (hT : T k = []) (t : ByteArray) (m : Mt) (ht : bs t = encB m) (hm : m.OK) (hb : (fl D.files (F k)).d.size + t.size ≤ 100000) (hap : D.appends (fnm k) t = true) :
    Files (D.append (fnm k) t) k a F (fun j => if j = k then B k ++ [m] else B j) T ∧ (fl (D.append (fnm k) t).files (F k)).d.size = (fl D.files (F k)).d.size + t.size ∧ (∀ hd, Sure D a F B hd → Sure (D.append (fnm k) t) a F (fun j => if j = k then B k ++ [m] else B j) hd) := by
  obtain ⟨hth, ha⟩ := h.at_ hk (Nat.le_refl _)
  have hlt := h.lt k hk (Nat.le_refl _)
  unfold Dk.append
  rw [if_pos hap, ha]
  have e : ∀ j, fl (D.files.set (F k) { fl D.files (F k) with d := (fl D.files (F k)).d ++ t }) j = if j = F k then { fl D.files (F k) with d := (fl D.files (F k)).d ++ t } else fl D.files j := fun j => fl_set hlt
  have es : ∀ j, (fl (D.files.set (F k) { fl D.files (F k) with d := (fl D.files (F k)).d ++ t }) j).s = (fl D.files j).s := fun j => by
    rw [e]; split
    · rename_i hj; rw [hj]
    · rfl
  have eF : ∀ i, 1 ≤ i → i ≤ k → i ≠ k → fl (D.files.set (F k) { fl D.files (F k) with d := (fl D.files (F k)).d ++ t }) (F i) = fl D.files (F i) := fun i h1 h2 h3 => by
    rw [e, if_neg (fun hh => h3 (h.inj i k h1 h2 hk (Nat.le_refl _) hh))]
  have ek : fl (D.files.set (F k) { fl D.files (F k) with d := (fl D.files (F k)).d ++ t }) (F k) = { fl D.files (F k) with d := (fl D.files (F k)).d ++ t } := by rw [e, if_pos rfl]
  have bsa : bs ((fl D.files (F k)).d ++ t) = bs (fl D.files (F k)).d ++ bs t := by unfold bs; simp
  refine ⟨⟨h.ak, by show k ≤ (D.files.set _ _).length; rw [List.length_set]; exact h.kf, by show Srt D.chg.now; rw [D.chg_now]; exact h.srt, by show Srt D.chg.safe; rw [D.chg_safe]; exact h.srs, by show ∀ x, x ∈ D.chg.now ↔ _; rw [D.chg_now]; exact h.now, by show ∀ x, x ∈ D.chg.safe ↔ _; rw [D.chg_safe]; exact h.safe, D.chg_steps.trans h.steps, h.inj, fun i h1 h2 => by show _ < (D.files.set _ _).length; rw [List.length_set]; exact h.lt i h1 h2, fun i h1 h2 => ?_, fun i h1 h2 => ?_, fun i h1 h2 => ?_, fun i h1 h2 => ?_, fun i h1 h2 => ?_⟩, ?_, fun hd hh => ?_⟩
  · show bs (fl (D.files.set _ _) (F i)).d = encs (if i = k then B k ++ [m] else B i) ++ T i
    by_cases hi : i = k
    · subst hi
      rw [if_pos rfl, ek, bsa, h.dat i hk (Nat.le_refl _), hT, ht, encs_app, List.append_nil, List.append_nil]
      congr 1
      show _ = encB m ++ []
      rw [List.append_nil]
    · rw [if_neg hi, eF i h1 h2 hi]; exact h.dat i h1 h2
  · show (∀ x ∈ (if i = k then B k ++ [m] else B i), x.OK) ∧ _
    by_cases hi : i = k
    · subst hi
      rw [if_pos rfl]
      refine ⟨fun x hx => ?_, (h.ok i h1 h2).2⟩
      rcases List.mem_append.1 hx with hx | hx
      · exact (h.ok i h1 h2).1 x hx
      · rw [List.mem_singleton.1 hx]; exact hm
    · rw [if_neg hi]; exact h.ok i h1 h2
  · show (fl (D.files.set _ _) (F i)).s = (fl (D.files.set _ _) (F i)).d.size
    rw [eF i h1 (by omega) (by omega)]; exact h.syn i h1 h2
  · show (fl (D.files.set _ _) (F i)).s ≤ (fl (D.files.set _ _) (F i)).d.size
    by_cases hi : i = k
    · subst hi
      rw [ek]
      show (fl D.files (F i)).s ≤ ((fl D.files (F i)).d ++ t).size
      rw [ByteArray.size_append]
      have := h.syk i h1 h2; omega
    · rw [eF i h1 h2 hi]; exact h.syk i h1 h2
  · show (fl (D.files.set _ _) (F i)).d.size ≤ _
    by_cases hi : i = k
    · subst hi
      rw [ek]
      show ((fl D.files (F i)).d ++ t).size ≤ _
      rw [ByteArray.size_append]; exact hb
    · rw [eF i h1 h2 hi]; exact h.bnd i h1 h2
  · show (fl (D.files.set _ _) (F k)).d.size = _
    rw [ek]; exact ByteArray.size_append
  · obtain ⟨p, h1, h2, h3⟩ := hh
    have hak := h.ak
    refine ⟨p, ?_, h2, fun h4 => ?_⟩
    · rw [allB_congr (B := fun j => if j = k then B k ++ [m] else B j) (C := B) (a - 1) (fun i _ hi => if_neg (by omega))]; exact h1
    · show p ≤ (if a = k then B k ++ [m] else B a).length ∧ (encs ((if a = k then B k ++ [m] else B a).take p)).length ≤ (fl (D.files.set _ _) (F a)).s
      rw [es]
      obtain ⟨h5, h6⟩ := h3 h4
      by_cases hi : a = k
      · subst hi
        rw [if_pos rfl]
        exact ⟨by simp; omega, by rw [List.take_append_of_le_length h5]; exact h6⟩
      · rw [if_neg hi]; exact ⟨h5, h6⟩
end Go.Proofs.YtilkdeghknjjhaaGreatDoor
/- A crash: what is found behind it. Plain facts. -/
namespace Go.Proofs.YtilkdeghknjjhaaGreatDoor
open Go.RowKit M
set_option linter.unusedVariables false

/-- A file behind a crash that leaves it so many bytes. -/
def Fl.cutTo (x : Fl) (m : Nat) : Fl := ⟨x.d.extract 0 m, m⟩
/-- Of a file so many bytes are left. -/
def Fl.left (x : Fl) (keep : List Int) (i : Nat) : Nat := x.s + (pickK keep i ((x.d.size : Int) - (x.s : Int) + 1)).toNat
/-- The files behind a crash: those of the first i names are cut. -/
def crF (files : List Fl) (l : List Nm) (keep : List Int) : Nat → List Fl
  | 0 => files
  | i + 1 => (crF files l keep i).set (nm l i).f ((fl (crF files l keep i) (nm l i).f).cutTo ((fl (crF files l keep i) (nm l i).f).left keep (i + 1)))
def Stp.z : Stp := ⟨0, ByteArray.empty, ByteArray.empty, 0⟩
def stp (l : List Stp) (i : Nat) : Stp := l.getD i Stp.z
/-- The directory behind a crash that keeps so many steps. -/
def crN (safe : List Nm) (steps : List Stp) : Nat → List Nm
  | 0 => safe
  | i + 1 => doS (crN safe steps i) (stp steps i)
/-- So many steps are kept. -/
def Dk.kept (D : Dk) (keep : List Int) : Nat := (pickK keep 0 ((D.steps.length : Int) + 1)).toNat
def Dk.crash (D : Dk) (keep : List Int) : Dk :=
  { D with files := crF D.files (crN D.safe D.steps (D.kept keep)) keep (crN D.safe D.steps (D.kept keep)).length, now := crN D.safe D.steps (D.kept keep), safe := crN D.safe D.steps (D.kept keep), steps := [], wait := -1, life := -1 }
theorem Dk.kept_le (D : Dk) (keep : List Int) : D.kept keep ≤ D.steps.length := by
  have := pickK_lt keep 0 (n := (D.steps.length : Int) + 1) (by omega)
  unfold Dk.kept; omega
theorem Fl.left_le (x : Fl) (h : x.s ≤ x.d.size) (keep : List Int) (i : Nat) : x.s ≤ x.left keep i ∧ x.left keep i ≤ x.d.size := by
  have := pickK_lt keep i (n := (x.d.size : Int) - (x.s : Int) + 1) (by omega)
  unfold Fl.left; omega
/-- Each file is cut once. -/
theorem crF_at {files : List Fl} {l : List Nm} {keep : List Int} (hlt : ∀ x ∈ l, x.f < files.length) (hin : ∀ i j, i < l.length → j < l.length → (nm l i).f = (nm l j).f → i = j) : ∀ i, i ≤ l.length →
    (crF files l keep i).length = files.length ∧ (∀ j, j < i → fl (crF files l keep i) (nm l j).f = (fl files (nm l j).f).cutTo ((fl files (nm l j).f).left keep (j + 1))) ∧ (∀ f, (∀ j, j < i → (nm l j).f ≠ f) → fl (crF files l keep i) f = fl files f)
  | 0, _ => ⟨rfl, fun j hj => absurd hj (Nat.not_lt_zero j), fun f _ => rfl⟩
  | i + 1, h => by
    obtain ⟨h1, h2, h3⟩ := crF_at hlt hin i (by omega)
    have hl : (nm l i).f < files.length := by rw [nm_get l i (by omega)]; exact hlt _ (List.getElem_mem _)
    have e0 : fl (crF files l keep i) (nm l i).f = fl files (nm l i).f := h3 _ (fun j hj he => by have := hin j i (by omega) (by omega) he; omega)
    have e : crF files l keep (i + 1) = (crF files l keep i).set (nm l i).f ((fl files (nm l i).f).cutTo ((fl files (nm l i).f).left keep (i + 1))) := by
      show (crF files l keep i).set _ ((fl (crF files l keep i) (nm l i).f).cutTo ((fl (crF files l keep i) (nm l i).f).left keep (i + 1))) = _
      rw [e0]
    refine ⟨by rw [e, List.length_set, h1], fun j hj => ?_, fun f hf => ?_⟩
    · rw [e, fl_set (by omega)]
      by_cases hji : j = i
      · subst hji; rw [if_pos rfl]
      · rw [if_neg (fun he => hji (hin j i (by omega) (by omega) he))]; exact h2 j (by omega)
    · rw [e, fl_set (by omega), if_neg (fun he => hf i (by omega) he.symm)]
      exact h3 f (fun j hj => hf j (by omega))
theorem Files.crN {D : Dk} {k a : Nat} {F : Nat → Nat} {B : Nat → List Mt} {T : Nat → Bs} (h : Files D k a F B T) (hk : k ≤ 1000000000) : ∀ n, n ≤ k - a →
    Srt (crN D.safe D.steps n) ∧ (crN D.safe D.steps n).length = D.safe.length + n ∧ ∀ x, x ∈ crN D.safe D.steps n ↔ ∃ i, 1 ≤ i ∧ i ≤ a + n ∧ x = ⟨fnm i, F i⟩
  | 0, _ => ⟨h.srs, rfl, fun x => h.safe x⟩
  | n + 1, hn => by
    obtain ⟨h1, h0, h2⟩ := Files.crN h hk n (by omega)
    have hak := h.ak
    have hs : stp D.steps n = ⟨1, ByteArray.empty, fnm (a + 1 + n), F (a + 1 + n)⟩ := by
      unfold stp
      rw [h.steps, List.getD_eq_getElem?_getD, List.getElem?_map, List.getElem?_range (by omega)]
      rfl
    have hno : ∀ x ∈ Go.Proofs.YtilkdeghknjjhaaGreatDoor.crN D.safe D.steps n, x.n ≠ fnm (a + 1 + n) := fun x hx e => by
      obtain ⟨i, i1, i2, rfl⟩ := (h2 x).1 hx
      have := fnm_inj (by omega) (by omega) e
      omega
    have hnt : there (Go.Proofs.YtilkdeghknjjhaaGreatDoor.crN D.safe D.steps n) (fnm (a + 1 + n)) = false := by
      cases ht : there (Go.Proofs.YtilkdeghknjjhaaGreatDoor.crN D.safe D.steps n) (fnm (a + 1 + n))
      · rfl
      · obtain ⟨x, hx, he⟩ := (there_iff h1 _).1 ht
        exact absurd he (hno x hx)
    have e : Go.Proofs.YtilkdeghknjjhaaGreatDoor.crN D.safe D.steps (n + 1) = insN (Go.Proofs.YtilkdeghknjjhaaGreatDoor.crN D.safe D.steps n) ⟨fnm (a + 1 + n), F (a + 1 + n)⟩ := by
      show doS (Go.Proofs.YtilkdeghknjjhaaGreatDoor.crN D.safe D.steps n) (stp D.steps n) = _
      rw [hs]
      exact doS_ins (s := ⟨1, ByteArray.empty, fnm (a + 1 + n), F (a + 1 + n)⟩) rfl (fun x hx => ne_toList (fun e => by obtain ⟨i, _, _, rfl⟩ := (h2 x).1 hx; exact fnm_ne i e)) (fun x hx => ne_toList (hno x hx))
    rw [e]
    refine ⟨srt_ins h1 hnt, by rw [insN_len, h0]; omega, fun x => ?_⟩
    rw [mem_ins, h2]
    constructor
    · rintro (rfl | ⟨i, i1, i2, rfl⟩)
      · exact ⟨a + 1 + n, by omega, by omega, rfl⟩
      · exact ⟨i, i1, by omega, rfl⟩
    · rintro ⟨i, i1, i2, rfl⟩
      by_cases hi : i = a + 1 + n
      · subst hi; exact .inl rfl
      · exact .inr ⟨i, i1, by omega, rfl⟩
theorem extract_all (d : ByteArray) : d.extract 0 d.size = d := by simp
theorem bs_extract0 (d : ByteArray) (m : Nat) : bs (d.extract 0 m) = (bs d).take m := by
  unfold bs; simp [ByteArray.data_extract, List.extract]
/-- A file that is sure is as it was. -/
theorem cutTo_same {x : Fl} (h : x.s = x.d.size) {m : Nat} (h1 : x.s ≤ m) (h2 : m ≤ x.d.size) : x.cutTo m = x := by
  have : m = x.d.size := by omega
  subst this
  unfold Fl.cutTo
  rw [extract_all]
  cases x; simp at h ⊢; exact h.symm
/-- What is found behind a crash. -/
theorem Files.crash {D : Dk} {k a hd : Nat} {F : Nat → Nat} {B : Nat → List Mt} {T : Nat → Bs} (h : Files D k a F B T) (hk : k ≤ 1000000000) (hs : Sure D a F B hd) (keep : List Int) :
    ∃ k' B' T', Files (D.crash keep) k' k' F B' T' ∧ allB B' k' <+: allB B k ∧ hd ≤ (allB B' k').length ∧ (1 ≤ k' → (fl (D.crash keep).files (F k')).s = (fl (D.crash keep).files (F k')).d.size) ∧ k' ≤ k := by
  have hak := h.ak
  have hn := D.kept_le keep
  rw [h.steps, List.length_map, List.length_range] at hn
  obtain ⟨n1, n0, n2⟩ := h.crN hk _ hn
  obtain ⟨n, hnn⟩ : ∃ n, D.kept keep = n := ⟨_, rfl⟩
  obtain ⟨l, hl⟩ : ∃ l, Go.Proofs.YtilkdeghknjjhaaGreatDoor.crN D.safe D.steps n = l := ⟨_, rfl⟩
  rw [hnn] at hn n0 n1 n2
  rw [hl] at n0 n1 n2
  have hlt : ∀ x ∈ l, x.f < D.files.length := fun x hx => by
    obtain ⟨i, i1, i2, rfl⟩ := (n2 x).1 hx
    exact h.lt i i1 (by omega)
  have hin : ∀ i j, i < l.length → j < l.length → (nm l i).f = (nm l j).f → i = j := fun i j hi hj he => by
    obtain ⟨p, p1, p2, pe⟩ := (n2 (nm l i)).1 (by rw [nm_get l i hi]; exact List.getElem_mem _)
    obtain ⟨q, q1, q2, qe⟩ := (n2 (nm l j)).1 (by rw [nm_get l j hj]; exact List.getElem_mem _)
    rw [pe, qe] at he
    have hpq := h.inj p q p1 (by omega) q1 (by omega) he
    subst hpq
    rcases Nat.lt_trichotomy i j with hij | hij | hij
    · have := srt_lt n1 hij hj
      rw [pe, qe, bl_irr] at this; cases this
    · exact hij
    · have := srt_lt n1 hij hi
      rw [pe, qe, bl_irr] at this; cases this
  obtain ⟨c1, c2, c3⟩ := crF_at (keep := keep) hlt hin l.length (Nat.le_refl _)
  have hcr : D.crash keep = { D with files := crF D.files l keep l.length, now := l, safe := l, steps := [], wait := -1, life := -1 } := by
    unfold Dk.crash; rw [hnn, hl]
  rw [hcr]
  obtain ⟨G, hG⟩ : ∃ G, crF D.files l keep l.length = G := ⟨_, rfl⟩
  rw [hG] at c1 c2 c3
  rw [hG]
  -- each file
  have hf : ∀ i, 1 ≤ i → i ≤ a + n → ∃ m, fl G (F i) = (fl D.files (F i)).cutTo m ∧ (fl D.files (F i)).s ≤ m ∧ m ≤ (fl D.files (F i)).d.size := fun i i1 i2 => by
    obtain ⟨j, hj, hje⟩ := List.getElem_of_mem ((n2 ⟨fnm i, F i⟩).2 ⟨i, i1, i2, rfl⟩)
    have e1 := c2 j hj
    rw [nm_get l j hj, hje] at e1
    exact ⟨_, e1, Fl.left_le _ (h.syk i i1 (by omega)) keep (j + 1)⟩
  have hlow : ∀ i, 1 ≤ i → i < a + n → fl G (F i) = fl D.files (F i) := fun i i1 i2 => by
    obtain ⟨m, e, m1, m2⟩ := hf i i1 (by omega)
    rw [e, cutTo_same (h.syn i i1 (by omega)) m1 m2]
  by_cases h0 : a + n = 0
  · obtain ⟨p, p1, p2, p3⟩ := hs
    have ha0 : a = 0 := by omega
    have hp0 := p2 ha0
    subst ha0
    have h01 : hd ≤ 0 := by
      have h5 : (allB B (0 - 1)).length = 0 := rfl
      omega
    have hmem : ∀ x, x ∈ l ↔ ∃ i, 1 ≤ i ∧ i ≤ 0 ∧ x = ⟨fnm i, F i⟩ := fun x => by
      rw [n2 x, h0]
    exact ⟨0, B, T, ⟨Nat.le_refl _, Nat.zero_le _, n1, n1, hmem, hmem, rfl, fun i j h1 h2 => by omega, fun i h1 h2 => by omega, fun i h1 h2 => by omega, fun i h1 h2 => by omega, fun i h1 h2 => by omega, fun i h1 h2 => by omega, fun i h1 h2 => by omega⟩, allB_prefix B k 0 (by omega), by show hd ≤ 0; omega, fun h1 => by omega, by omega⟩
  obtain ⟨K, hK⟩ : ∃ K, a + n = K := ⟨_, rfl⟩
  rw [hK] at hf hlow n2 h0
  have hKk : K ≤ k := by omega
  obtain ⟨m, em, m1, m2⟩ := hf K (by omega) (Nat.le_refl _)
  obtain ⟨p, t', p1, p2, p3, p4⟩ := cut_encs (B K) (T K) m (h.ok K (by omega) hKk).1 (h.ok K (by omega) hKk).2
  have hms : (fl G (F K)).d.size = m := by
    rw [em]; unfold Fl.cutTo
    show ((fl D.files (F K)).d.extract 0 m).size = m
    rw [ByteArray.size_extract]; omega
  have hss : (fl G (F K)).s = m := by rw [em]; rfl
  have hdat : bs (fl G (F K)).d = encs ((B K).take p) ++ t' := by
    rw [em]; unfold Fl.cutTo
    show bs ((fl D.files (F K)).d.extract 0 m) = _
    rw [bs_extract0, h.dat K (by omega) hKk, p3]
  have hB1 : allB (fun j => if j = K then (B K).take p else B j) (K - 1) = allB B (K - 1) := allB_congr _ (fun i _ hi => if_neg (by omega))
  have hBK : allB (fun j => if j = K then (B K).take p else B j) K = allB B (K - 1) ++ (B K).take p := by
    cases K with
    | zero => exact absurd rfl h0
    | succ K =>
      show allB _ K ++ (if K + 1 = K + 1 then _ else _) = _
      rw [if_pos rfl]
      have : allB (fun j => if j = K + 1 then (B (K + 1)).take p else B j) K = allB B K := hB1
      rw [this]; rfl
  have hBk : allB B K = allB B (K - 1) ++ B K := by
    cases K with
    | zero => exact absurd rfl h0
    | succ K => rfl
  refine ⟨K, fun j => if j = K then (B K).take p else B j, fun j => if j = K then t' else T j, ⟨Nat.le_refl _, by show K ≤ G.length; rw [c1]; have := h.kf; omega, n1, n1, n2, n2, by show ([] : List Stp) = _; simp, fun i j i1 i2 j1 j2 he => h.inj i j i1 (by omega) j1 (by omega) he, fun i i1 i2 => by show F i < G.length; rw [c1]; exact h.lt i i1 (by omega), fun i i1 i2 => ?_, fun i i1 i2 => ?_, fun i i1 i2 => ?_, fun i i1 i2 => ?_, fun i i1 i2 => ?_⟩, ?_, ?_, fun _ => by show (fl G (F K)).s = (fl G (F K)).d.size; rw [hms, hss], hKk⟩
  · show bs (fl G (F i)).d = encs (if i = K then _ else B i) ++ (if i = K then t' else T i)
    by_cases hi : i = K
    · subst hi; rw [if_pos rfl, if_pos rfl]; exact hdat
    · rw [if_neg hi, if_neg hi, hlow i i1 (by omega)]; exact h.dat i i1 (by omega)
  · show (∀ x ∈ (if i = K then _ else B i), x.OK) ∧ Tail (if i = K then t' else T i)
    by_cases hi : i = K
    · subst hi
      rw [if_pos rfl, if_pos rfl]
      exact ⟨fun x hx => (h.ok i i1 hKk).1 x (List.mem_of_mem_take hx), p2⟩
    · rw [if_neg hi, if_neg hi]; exact h.ok i i1 (by omega)
  · show (fl G (F i)).s = (fl G (F i)).d.size
    rw [hlow i i1 i2]; exact h.syn i i1 (by omega)
  · show (fl G (F i)).s ≤ (fl G (F i)).d.size
    by_cases hi : i = K
    · subst hi; rw [hms, hss]; exact Nat.le_refl _
    · rw [hlow i i1 (by omega)]; exact h.syk i i1 (by omega)
  · show (fl G (F i)).d.size ≤ _
    by_cases hi : i = K
    · subst hi; rw [hms]; have := h.bnd i i1 hKk; omega
    · rw [hlow i i1 (by omega)]; exact h.bnd i i1 (by omega)
  · rw [hBK]
    refine List.IsPrefix.trans ?_ (allB_prefix B k K hKk)
    rw [hBk]
    exact (List.prefix_append_right_inj _).2 (List.take_prefix _ _)
  · rw [hBK, List.length_append, List.length_take]
    obtain ⟨q, q1, q2, q3⟩ := hs
    have hp5 : min p (B K).length = p := by omega
    rw [hp5]
    by_cases ha : a = K
    · subst ha
      obtain ⟨q4, q5⟩ := q3 (by omega)
      have := p4 q q4 (by omega)
      omega
    · have h5 : (allB B a).length ≤ (allB B (K - 1)).length := (allB_prefix B (K - 1) a (by omega)).length_le
      by_cases ha0 : a = 0
      · have := q2 ha0
        subst ha0
        have h6 : (allB B (0 - 1)).length = 0 := rfl
        omega
      · have h6 : allB B a = allB B (a - 1) ++ B a := by
          cases a with
          | zero => exact absurd rfl ha0
          | succ a => rfl
        obtain ⟨q4, _⟩ := q3 (by omega)
        rw [h6, List.length_append] at h5
        omega
end Go.Proofs.YtilkdeghknjjhaaGreatDoor
/- The journal on a disk, in short: each call. Plain facts. -/
namespace Go.Proofs.YtilkdeghknjjhaaGreatDoor
open Go.RowKit M
set_option linter.unusedVariables false

/-- The bytes of all files, as a sum. -/
def szs (fs : List Fl) (l : List Nm) : Int := (l.map fun x => ((fl fs x.f).d.size : Int)).sum
theorem bytesTo_sum (D : Dk) : ∀ k, k ≤ D.now.length → D.bytesTo k = szs D.files (D.now.take k)
  | 0, _ => rfl
  | k + 1, h => by
    show D.bytesTo k + ((fl D.files (nm D.now k).f).d.size : Int) = _
    rw [bytesTo_sum D k (by omega), List.take_succ_eq_append_getElem (by omega), nm_get _ _ (by omega)]
    unfold szs
    rw [List.map_append, List.sum_append]
    simp
theorem bytes_sum (D : Dk) : D.bytes = szs D.files D.now := by
  unfold Dk.bytes; rw [bytesTo_sum D _ (Nat.le_refl _), List.take_length]
theorem szs_congr {fs gs : List Fl} {l : List Nm} (h : ∀ x ∈ l, (fl gs x.f).d.size = (fl fs x.f).d.size) : szs gs l = szs fs l := by
  unfold szs
  congr 1
  exact List.map_congr_left fun x hx => by rw [h x hx]
theorem szs_ins (fs : List Fl) (l : List Nm) (x : Nm) : szs fs (insN l x) = szs fs l + ((fl fs x.f).d.size : Int) := by
  have e : szs fs l = szs fs (l.take (fd l x.n)) + szs fs (l.drop (fd l x.n)) := by
    unfold szs
    rw [← List.sum_append, ← List.map_append, List.take_append_drop]
  rw [e]
  unfold insN szs
  rw [List.map_append, List.sum_append, List.map_cons, List.sum_cons]
  omega
theorem may_failed {D : Dk} (h : D.may = true) : D.chg.failed = D.failed := by unfold Dk.chg; rw [if_pos h]
theorem not_may_failed {D : Dk} (h : D.may = false) : D.chg.failed = D.failed + 1 := by unfold Dk.chg; rw [if_neg (by rw [h]; simp)]
theorem chg_failed_ge (D : Dk) : D.failed ≤ D.chg.failed := by
  cases h : D.may
  · rw [not_may_failed h]; omega
  · rw [may_failed h]; omega

/-- The journal on a disk: all its records; the last file: its number, its bytes, whether it ends amid a record, whether it is sure; so many records are held. -/
structure JD (D : Dk) (ms : List Mt) (k sz : Nat) (cut sy : Bool) (hd : Nat) : Prop where
  ex : ∃ a F B T, Files D k a F B T ∧ allB B k = ms ∧ Sure D a F B hd ∧ (1 ≤ k → sz = (fl D.files (F k)).d.size ∧ (cut = true ↔ T k ≠ [])) ∧ (sy = true → 1 ≤ k → (fl D.files (F k)).s = (fl D.files (F k)).d.size)
theorem JD.mono {D : Dk} {ms : List Mt} {k sz : Nat} {cut sy : Bool} {hd he : Nat} (h : JD D ms k sz cut sy hd) (hh : he ≤ hd) : JD D ms k sz cut sy he := by
  obtain ⟨a, F, B, T, h1, h2, ⟨p, h3, h4⟩, h5⟩ := h
  exact ⟨a, F, B, T, h1, h2, ⟨p, by omega, h4⟩, h5⟩
theorem JD.less {D : Dk} {ms : List Mt} {k sz : Nat} {cut sy : Bool} {hd : Nat} (h : JD D ms k sz cut sy hd) : JD D ms k sz cut false hd := by
  obtain ⟨a, F, B, T, h1, h2, h3, h4, h5⟩ := h
  exact ⟨a, F, B, T, h1, h2, h3, h4, fun hh => by cases hh⟩
theorem JD.of {D E : Dk} {ms : List Mt} {k sz : Nat} {cut sy : Bool} {hd : Nat} (h : JD D ms k sz cut sy hd) (h1 : E.files = D.files) (h2 : E.now = D.now) (h3 : E.safe = D.safe) (h4 : E.steps = D.steps) : JD E ms k sz cut sy hd := by
  obtain ⟨a, F, B, T, g1, g2, g3, g4, g5⟩ := h
  exact ⟨a, F, B, T, g1.of h1 h2 h3 h4, g2, g3.of h1, by rw [h1]; exact g4, by rw [h1]; exact g5⟩
theorem JD.chg {D : Dk} {ms : List Mt} {k sz : Nat} {cut sy : Bool} {hd : Nat} (h : JD D ms k sz cut sy hd) : JD D.chg ms k sz cut sy hd := h.of D.chg_files D.chg_now D.chg_safe D.chg_steps
theorem Sure.full {D : Dk} {k : Nat} {F : Nat → Nat} {B : Nat → List Mt} {T : Nat → Bs} (h : Files D k k F B T) (hs : 1 ≤ k → (fl D.files (F k)).s = (fl D.files (F k)).d.size) : Sure D k F B (allB B k).length := by
  by_cases h0 : k = 0
  · subst h0; exact ⟨0, by show (allB B 0).length ≤ (allB B 0).length + 0; omega, fun _ => rfl, fun h => by omega⟩
  · have hk : 1 ≤ k := by omega
    refine ⟨(B k).length, ?_, fun h => absurd h h0, fun _ => ⟨Nat.le_refl _, ?_⟩⟩
    · cases k with
      | zero => exact absurd rfl h0
      | succ k => show (allB B k ++ B (k + 1)).length ≤ _; rw [List.length_append]; exact Nat.le_refl _
    · rw [List.take_length, hs hk]
      have := h.dat k hk (Nat.le_refl _)
      have h2 : (fl D.files (F k)).d.size = (bs (fl D.files (F k)).d).length := by unfold bs; simp
      rw [h2, this, List.length_append]; omega
/-- A journal of so many records, none held, is in order on its own. -/
theorem JD.sync {D : Dk} {ms : List Mt} {k sz : Nat} {cut sy : Bool} {hd : Nat} (h : JD D ms k sz cut sy hd) (hw : D.WF) (hk : 1 ≤ k) :
    JD (D.sync (fnm k)) ms k sz cut (D.syncs (fnm k)) hd ∧ (D.syncs (fnm k) = false → D.failed < (D.sync (fnm k)).failed) ∧ (D.syncs (fnm k) = true → (D.sync (fnm k)).failed = D.failed) ∧ (D.sync (fnm k)).cap = D.cap ∧ (D.sync (fnm k)).bytes = D.bytes := by
  obtain ⟨a, F, B, T, g1, g2, g3, g4, g5⟩ := h
  obtain ⟨e1, e2, e3⟩ := g1.sync hk
  obtain ⟨ht, hat⟩ := g1.at_ hk (Nat.le_refl _)
  have hsz : ∀ j, (fl (D.sync (fnm k)).files j).d = (fl D.files j).d := fun j => by
    unfold Dk.sync
    split
    · show (fl (D.files.set _ _) j).d = _
      rw [fl_set (by rw [hat]; exact g1.lt k hk (Nat.le_refl _))]
      split
      · rename_i hj; rw [hj]
      · rfl
    · show (fl D.chg.files j).d = _
      rw [D.chg_files]
  refine ⟨⟨a, F, B, T, e1, g2, e3 _ g3, fun hk => by rw [hsz]; exact g4 hk, fun hs _ => e2 hs⟩, fun hs => ?_, fun hs => ?_, ?_, ?_⟩
  · have hm : D.may = false := by
      unfold Dk.syncs at hs; rw [ht] at hs; simpa using hs
    unfold Dk.sync
    rw [if_neg (by rw [hs]; simp), not_may_failed hm]; omega
  · have hm : D.may = true := by
      unfold Dk.syncs at hs; rw [ht] at hs; simpa using hs
    unfold Dk.sync
    rw [if_pos hs]
    exact may_failed hm
  · unfold Dk.sync; split <;> exact D.chg_cap
  · rw [bytes_sum, bytes_sum]
    have e4 : (D.sync (fnm k)).now = D.now := by unfold Dk.sync; split <;> exact D.chg_now
    rw [e4]
    exact szs_congr fun x _ => by rw [hsz]
theorem JD.syncDir {D : Dk} {ms : List Mt} {k sz : Nat} {cut : Bool} {hd : Nat} (h : JD D ms k sz cut true hd) (hm : D.may = true) : JD D.syncDir ms k sz cut true ms.length := by
  obtain ⟨a, F, B, T, g1, g2, g3, g4, g5⟩ := h
  have e1 := g1.syncDir hm
  have ef : D.syncDir.files = D.files := by unfold Dk.syncDir; rw [if_pos hm]; exact D.chg_files
  refine ⟨k, F, B, T, e1, g2, ?_, by rw [ef]; exact g4, by rw [ef]; exact g5⟩
  rw [← g2]
  exact Sure.full e1 (by rw [ef]; exact g5 rfl)
theorem syncDir_cap (D : Dk) : D.syncDir.cap = D.cap ∧ D.syncDir.bytes = D.bytes ∧ (D.may = true → D.syncDir.failed = D.failed) ∧ (D.may = false → D.failed < D.syncDir.failed) := by
  unfold Dk.syncDir
  cases hm : D.may
  · rw [if_neg (by simp)]
    exact ⟨D.chg_cap, D.chg_bytes, fun h => (by cases h), fun _ => (by rw [not_may_failed hm]; omega)⟩
  · rw [if_pos rfl]
    refine ⟨D.chg_cap, ?_, fun _ => may_failed hm, fun h => (by cases h)⟩
    rw [bytes_sum, bytes_sum]
    show szs D.chg.files D.chg.now = _
    rw [D.chg_files, D.chg_now]
theorem JD.not_there {D : Dk} {ms : List Mt} {k sz : Nat} {cut sy : Bool} {hd : Nat} (h : JD D ms k sz cut sy hd) (hk : k < 1000000000) : there D.now (fnm (k + 1)) = false ∧ ((fnm (k + 1)).toList == []) = false := by
  obtain ⟨a, F, B, T, g1, _⟩ := h
  refine ⟨?_, ?_⟩
  · cases ht : there D.now (fnm (k + 1))
    · rfl
    · obtain ⟨x, hx, he⟩ := (there_iff g1.srt _).1 ht
      obtain ⟨i, i1, i2, rfl⟩ := (g1.now x).1 hx
      have := fnm_inj (by omega) (by omega) he
      omega
  · cases ht : ((fnm (k + 1)).toList == ([] : List UInt8))
    · rfl
    · exact absurd ((nil_iff _).1 ht) (fnm_ne _)
theorem JD.create {D : Dk} {ms : List Mt} {k sz : Nat} {cut sy : Bool} {hd : Nat} (h : JD D ms k sz cut sy hd) (hw : D.WF) (hk : k < 1000000000) (hs : sy = true ∨ k = 0) :
    (D.creates (fnm (k + 1)) = true → JD (D.create (fnm (k + 1))) ms (k + 1) 0 false false hd ∧ (D.create (fnm (k + 1))).failed = D.failed) ∧ (D.creates (fnm (k + 1)) = false → JD (D.create (fnm (k + 1))) ms k sz cut sy hd ∧ D.failed < (D.create (fnm (k + 1))).failed) ∧ (D.create (fnm (k + 1))).cap = D.cap ∧ (D.create (fnm (k + 1))).bytes = D.bytes := by
  obtain ⟨n1, n2⟩ := h.not_there hk
  have hcm : D.creates (fnm (k + 1)) = D.may := by unfold Dk.creates; rw [n1, n2]; simp
  have h0 := h
  obtain ⟨a, F, B, T, g1, g2, g3, g4, g5⟩ := h
  refine ⟨fun hc => ?_, fun hc => ?_, ?_, ?_⟩
  · obtain ⟨e1, e2, e3⟩ := g1.create hw hk (fun h1 => by
      rcases hs with hs | hs
      · exact g5 hs h1
      · omega) hc
    refine ⟨⟨a, _, _, _, e1, ?_, e3 _ g3, fun _ => ⟨?_, ?_⟩, fun hh => by cases hh⟩, ?_⟩
    · show allB (fun j => if j = k + 1 then [] else B j) k ++ (if k + 1 = k + 1 then [] else B (k + 1)) = ms
      rw [if_pos rfl, List.append_nil, allB_congr (C := B) k (fun i _ hi => if_neg (by omega)), g2]
    · show 0 = (fl _ (if k + 1 = k + 1 then _ else _)).d.size
      rw [if_pos rfl]; exact e2.symm
    · show (false = true) ↔ (if k + 1 = k + 1 then [] else T (k + 1)) ≠ []
      rw [if_pos rfl]; simp
    · unfold Dk.create; rw [if_pos hc]
      exact may_failed (hcm ▸ hc)
  · have e : D.create (fnm (k + 1)) = D.chg := by unfold Dk.create; rw [if_neg (by rw [hc]; simp)]
    rw [e]
    exact ⟨h0.chg, by rw [not_may_failed (hcm ▸ hc)]; omega⟩
  · unfold Dk.create; split <;> exact D.chg_cap
  · unfold Dk.create
    split
    · rename_i hc
      obtain ⟨e1, _, _⟩ := Dk.create_now hw hc
      rw [bytes_sum, bytes_sum]
      show szs (D.files ++ [Fl.z]) (doS D.now (D.step1 (fnm (k + 1)))) = _
      rw [e1, szs_ins]
      have fz : fl (D.files ++ [Fl.z]) D.files.length = Fl.z := by unfold fl; rw [List.getD_eq_getElem?_getD]; simp
      show szs _ D.now + ((fl (D.files ++ [Fl.z]) D.files.length).d.size : Int) = _
      rw [fz]
      have : ((Fl.z.d.size : Nat) : Int) = 0 := rfl
      rw [this, Int.add_zero]
      exact szs_congr fun x hx => by
        have := hw.ok.now x hx
        unfold fl; rw [List.getD_eq_getElem?_getD, List.getD_eq_getElem?_getD, List.getElem?_append_left this]
    · exact D.chg_bytes
theorem JD.append {D : Dk} {ms : List Mt} {k sz : Nat} {sy : Bool} {hd : Nat} (h : JD D ms k sz false sy hd) (hw : D.WF) (hk : 1 ≤ k) (t : ByteArray) (m : Mt) (ht : bs t = encB m) (hm : m.OK) (hb : sz + t.size ≤ 100000) (hr : (t.size : Int) ≤ D.cap - D.bytes) :
    (D.appends (fnm k) t = true → JD (D.append (fnm k) t) (ms ++ [m]) k (sz + t.size) false false hd ∧ (D.append (fnm k) t).failed = D.failed) ∧ (D.appends (fnm k) t = false → JD (D.append (fnm k) t) ms k sz false sy hd ∧ D.failed < (D.append (fnm k) t).failed) ∧ (D.append (fnm k) t).cap = D.cap := by
  have h0 := h
  obtain ⟨a, F, B, T, g1, g2, g3, g4, g5⟩ := h
  obtain ⟨g6, g7⟩ := g4 hk
  have hT : T k = [] := by
    by_cases hT : T k = []
    · exact hT
    · exact absurd (g7.2 hT) (by simp)
  have ham : D.appends (fnm k) t = D.may := by
    unfold Dk.appends; rw [(g1.at_ hk (Nat.le_refl _)).1]; simp [hr]
  refine ⟨fun hc => ?_, fun hc => ?_, ?_⟩
  · obtain ⟨e1, e2, e3⟩ := g1.append hk hT t m ht hm (by omega) hc
    refine ⟨⟨a, F, _, T, e1, ?_, e3 _ g3, fun _ => ⟨by rw [e2]; omega, by rw [hT]; simp⟩, fun hh => by cases hh⟩, ?_⟩
    · cases k with
      | zero => omega
      | succ k =>
        show allB (fun j => if j = k + 1 then B (k + 1) ++ [m] else B j) k ++ (if k + 1 = k + 1 then B (k + 1) ++ [m] else B (k + 1)) = _
        rw [if_pos rfl, allB_congr (C := B) k (fun i _ hi => if_neg (by omega)), ← g2]
        show _ = (allB B k ++ B (k + 1)) ++ [m]
        rw [List.append_assoc]
    · unfold Dk.append; rw [if_pos hc]; exact may_failed (ham ▸ hc)
  · have e : D.append (fnm k) t = D.chg := by unfold Dk.append; rw [if_neg (by rw [hc]; simp)]
    rw [e]
    exact ⟨h0.chg, by rw [not_may_failed (ham ▸ hc)]; omega⟩
  · unfold Dk.append; split <;> exact D.chg_cap
theorem JD.sizeOf {D : Dk} {ms : List Mt} {k sz : Nat} {cut sy : Bool} {hd : Nat} (h : JD D ms k sz cut sy hd) (hk : 1 ≤ k) : D.sizeOf (fnm k) = sz := by
  obtain ⟨a, F, B, T, g1, g2, g3, g4, g5⟩ := h
  rw [g1.sizeOf hk (Nat.le_refl _), (g4 hk).1]
theorem JD.sz_le {D : Dk} {ms : List Mt} {k sz : Nat} {cut sy : Bool} {hd : Nat} (h : JD D ms k sz cut sy hd) (hk : 1 ≤ k) : sz ≤ 100000 := by
  obtain ⟨a, F, B, T, g1, g2, g3, g4, g5⟩ := h
  rw [(g4 hk).1]; exact g1.bnd k hk (Nat.le_refl _)
/-- What is found behind a crash. -/
theorem JD.crash {D : Dk} {ms : List Mt} {k sz : Nat} {cut sy : Bool} {hd : Nat} (h : JD D ms k sz cut sy hd) (hk : k ≤ 1000000000) (keep : List Int) :
    ∃ ms' k' sz' cut', JD (D.crash keep) ms' k' sz' cut' true ms'.length ∧ ms' <+: ms ∧ hd ≤ ms'.length ∧ k' ≤ k := by
  obtain ⟨a, F, B, T, g1, g2, g3, g4, g5⟩ := h
  obtain ⟨k', B', T', e1, e2, e3, e4, e5⟩ := g1.crash hk g3 keep
  refine ⟨allB B' k', k', (fl (D.crash keep).files (F k')).d.size, open Classical in decide (T' k' ≠ []), ⟨k', F, B', T', e1, rfl, Sure.full e1 e4, fun _ => ⟨rfl, by simp⟩, fun _ => e4⟩, g2 ▸ e2, e3, e5⟩
end Go.Proofs.YtilkdeghknjjhaaGreatDoor
/- The journal on a disk: what its own calls do. Plain facts. -/
namespace Go.Proofs.YtilkdeghknjjhaaGreatDoor
open Go.RowKit M
set_option linter.unusedVariables false

/-- The journal, as it is in memory, says where its files end. -/
abbrev JDJ (D : Dk) (ms : List Mt) (J : Jn) (sy : Bool) (hd : Nat) : Prop := JD D ms J.num J.size J.cut sy hd
theorem jsl_jd {D : Dk} {ms : List Mt} {J : Jn} {sy : Bool} {hd : Nat} (h : JDJ D ms J sy hd) (hw : D.WF) :
    ((jsl D J).1 = true → JDJ (jsl D J).2 ms J true hd ∧ (jsl D J).2.failed = D.failed) ∧ ((jsl D J).1 = false → JDJ (jsl D J).2 ms J false hd ∧ D.failed < (jsl D J).2.failed) ∧ (jsl D J).2.cap = D.cap ∧ (jsl D J).2.bytes = D.bytes := by
  unfold jsl
  by_cases h0 : J.num = 0
  · rw [if_pos h0]
    refine ⟨fun _ => ⟨?_, rfl⟩, fun hh => (by cases hh), rfl, rfl⟩
    obtain ⟨a, F, B, T, g1, g2, g3, g4, g5⟩ := h
    exact ⟨a, F, B, T, g1, g2, g3, g4, fun _ hk => by omega⟩
  · rw [if_neg h0]
    obtain ⟨e1, e2, e3, e4, e5⟩ := h.sync hw (by omega)
    refine ⟨fun hs => ?_, fun hs => ?_, e4, e5⟩
    · have hs' : D.syncs (fnm J.num) = true := hs
      rw [hs'] at e1
      exact ⟨e1, e3 hs'⟩
    · have hs' : D.syncs (fnm J.num) = false := hs
      rw [hs'] at e1
      exact ⟨e1, e2 hs'⟩
theorem jsync_jd {D : Dk} {ms : List Mt} {J : Jn} {sy : Bool} {hd : Nat} (h : JDJ D ms J sy hd) (hw : D.WF) :
    ((jsync D J).1 = true → JDJ (jsync D J).2 ms J true ms.length ∧ (jsync D J).2.failed = D.failed) ∧ ((jsync D J).1 = false → JDJ (jsync D J).2 ms J false hd ∧ D.failed < (jsync D J).2.failed) ∧ (jsync D J).2.cap = D.cap ∧ (jsync D J).2.bytes = D.bytes := by
  obtain ⟨e1, e2, e3, e4⟩ := jsl_jd h hw
  unfold jsync
  cases hs : (jsl D J).1
  · rw [if_neg (by simp)]
    obtain ⟨e5, e6⟩ := e2 hs
    exact ⟨fun hh => (by cases hh), fun _ => ⟨e5, e6⟩, e3, e4⟩
  · rw [if_pos rfl]
    obtain ⟨e5, e6⟩ := e1 hs
    obtain ⟨s1, s2, s3, s4⟩ := syncDir_cap (jsl D J).2
    refine ⟨fun hm => ⟨e5.syncDir hm, by have := s3 hm; show (jsl D J).2.syncDir.failed = _; omega⟩, fun hm => ⟨?_, by have := s4 hm; show _ < (jsl D J).2.syncDir.failed; omega⟩, s1.trans e3, s2.trans e4⟩
    have hm' : (jsl D J).2.may = false := hm
    have : (jsl D J).2.syncDir = (jsl D J).2.chg := by unfold Dk.syncDir; rw [if_neg (by rw [hm']; simp)]
    show JDJ (jsl D J).2.syncDir ms J false hd
    rw [this]
    exact e5.chg.less
theorem jbegin_jd {D : Dk} {ms : List Mt} {J : Jn} {sy : Bool} {hd : Nat} (h : JDJ D ms J sy hd) (hw : D.WF) (hb : D.Bud 2) (hk : J.num < 1000000000) :
    ((jbegin D J).1 = true → JDJ (jbegin D J).2.1 ms (jbegin D J).2.2 false hd ∧ (jbegin D J).2.1.failed = D.failed ∧ (jbegin D J).2.2 = ⟨J.roll, J.num + 1, 0, false⟩) ∧ ((jbegin D J).1 = false → JDJ (jbegin D J).2.1 ms J false hd ∧ D.failed < (jbegin D J).2.1.failed ∧ (jbegin D J).2.2 = J) ∧ (jbegin D J).2.1.cap = D.cap ∧ (jbegin D J).2.1.bytes = D.bytes := by
  obtain ⟨e1, e2, e3, e4⟩ := jsl_jd h hw
  have hw1 := jsl_wf hw 1 hb J
  unfold jbegin
  cases hs : (jsl D J).1
  · rw [if_pos rfl]
    obtain ⟨e5, e6⟩ := e2 hs
    exact ⟨fun hh => (by cases hh), fun _ => ⟨e5, e6, rfl⟩, e3, e4⟩
  · rw [if_neg (by simp)]
    obtain ⟨e5, e6⟩ := e1 hs
    obtain ⟨c1, c2, c3, c4⟩ := JD.create e5 hw1 hk (.inl rfl)
    cases hc : (jsl D J).2.creates (fnm (J.num + 1))
    · rw [if_pos rfl]
      obtain ⟨c5, c6⟩ := c2 hc
      exact ⟨fun hh => (by cases hh), fun _ => ⟨c5.less, by show _ < ((jsl D J).2.create _).failed; omega, rfl⟩, c3.trans e3, c4.trans e4⟩
    · rw [if_neg (by simp)]
      obtain ⟨c5, c6⟩ := c1 hc
      exact ⟨fun _ => ⟨c5, c6.trans e6, rfl⟩, fun hh => (by cases hh), c3.trans e3, c4.trans e4⟩
theorem jwrite_jd {D : Dk} {ms : List Mt} {J : Jn} {sy : Bool} {hd : Nat} (h : JDJ D ms J sy hd) (hw : D.WF) (hk : 1 ≤ J.num) (hc : J.cut = false) (t : ByteArray) (m : Mt) (ht : bs t = encB m) (hm : m.OK) (hb : J.size + t.size ≤ 100000) (hr : (t.size : Int) ≤ D.cap - D.bytes) :
    ((jwrite D J t).1 = true → JDJ (jwrite D J t).2.1 (ms ++ [m]) (jwrite D J t).2.2 false hd ∧ (jwrite D J t).2.1.failed = D.failed ∧ (jwrite D J t).2.2 = ⟨J.roll, J.num, J.size + t.size, false⟩) ∧ ((jwrite D J t).1 = false → JDJ (jwrite D J t).2.1 ms J false hd ∧ D.failed < (jwrite D J t).2.1.failed ∧ (jwrite D J t).2.2 = J) ∧ (jwrite D J t).2.1.cap = D.cap := by
  have h' : JD D ms J.num J.size false sy hd := hc ▸ h
  obtain ⟨e1, e2, e3⟩ := h'.append hw hk t m ht hm hb hr
  unfold jwrite
  cases ha : D.appends (fnm J.num) t
  · rw [if_neg (by simp)]
    obtain ⟨e4, e5⟩ := e2 ha
    exact ⟨fun hh => (by cases hh), fun _ => ⟨by show JD _ ms J.num J.size J.cut false hd; rw [hc]; exact e4.less, e5, rfl⟩, e3⟩
  · rw [if_pos rfl]
    obtain ⟨e4, e5⟩ := e1 ha
    exact ⟨fun _ => ⟨by show JD _ _ J.num (J.size + t.size) J.cut false hd; rw [hc]; exact e4, e5, by rw [hc]⟩, fun hh => (by cases hh), e3⟩
/-- What is found behind one more record. -/
theorem jappend_jd {D : Dk} {ms : List Mt} {J : Jn} {sy : Bool} {hd : Nat} (h : JDJ D ms J sy hd) (hw : D.WF) (hbu : D.Bud 3) (hk : J.num < 900000000) (hro : J.roll ≤ 100000) (t : ByteArray) (m : Mt) (ht : bs t = encB m) (hm : m.OK) (hts : t.size ≤ 1000) (hr : (t.size : Int) ≤ D.cap - D.bytes) :
    ((jappend D J t).1 = true → JDJ (jappend D J t).2.1 (ms ++ [m]) (jappend D J t).2.2 false hd ∧ (jappend D J t).2.1.failed = D.failed) ∧ ((jappend D J t).1 = false → JDJ (jappend D J t).2.1 ms (jappend D J t).2.2 false hd ∧ D.failed < (jappend D J t).2.1.failed) ∧ (jappend D J t).2.1.cap = D.cap ∧ (jappend D J t).2.2.roll = J.roll ∧ (jappend D J t).2.1.WF := by
  obtain ⟨b1, b2, b3, b4⟩ := jbegin_jd h hw (hbu.mono (by omega)) (by omega)
  have bw := jbegin_wf hw 1 hbu J
  have bb := jbegin_bud hw (k := 1) hbu J
  unfold jappend
  cases hn : jneeds J t
  · rw [if_neg (by simp)]
    unfold jneeds at hn
    simp only [Bool.or_eq_false_iff, decide_eq_false_iff_not] at hn
    obtain ⟨⟨n1, n2⟩, n3⟩ := hn
    obtain ⟨e1, e2, e3⟩ := jwrite_jd h hw (by omega) n2 t m ht hm (by omega) hr
    refine ⟨fun hh => ⟨(e1 hh).1, (e1 hh).2.1⟩, fun hh => ⟨by rw [(e2 hh).2.2]; exact (e2 hh).1, (e2 hh).2.1⟩, e3, ?_, jwrite_wf hw (hbu.mono (by omega)) J t (by rw [JD.sizeOf h (by omega)]; omega)⟩
    unfold jwrite; split <;> rfl
  · rw [if_pos rfl]
    cases hb : (jbegin D J).1
    · rw [if_neg (by simp)]
      obtain ⟨e1, e2, e3⟩ := b2 hb
      exact ⟨fun hh => (by cases hh), fun _ => ⟨by rw [e3]; exact e1, e2⟩, b3, by rw [e3], bw⟩
    · rw [if_pos rfl]
      obtain ⟨e1, e2, e3⟩ := b1 hb
      have hr2 : (t.size : Int) ≤ (jbegin D J).2.1.cap - (jbegin D J).2.1.bytes := by rw [b3, b4]; exact hr
      rw [e3] at e1
      rw [e3]
      obtain ⟨w1, w2, w3⟩ := jwrite_jd (J := ⟨J.roll, J.num + 1, 0, false⟩) e1 bw (by show 1 ≤ J.num + 1; omega) rfl t m ht hm (by show 0 + t.size ≤ _; omega) hr2
      refine ⟨fun hh => ⟨(w1 hh).1, by rw [(w1 hh).2.1]; exact e2⟩, fun hh => ⟨by rw [(w2 hh).2.2]; exact (w2 hh).1, by have := (w2 hh).2.1; rw [e2] at this; exact this⟩, w3.trans b3, ?_, jwrite_wf bw bb _ t (by rw [JD.sizeOf e1 (by show 1 ≤ J.num + 1; omega)]; show 0 + t.size ≤ _; omega)⟩
      unfold jwrite; split <;> rfl
end Go.Proofs.YtilkdeghknjjhaaGreatDoor
