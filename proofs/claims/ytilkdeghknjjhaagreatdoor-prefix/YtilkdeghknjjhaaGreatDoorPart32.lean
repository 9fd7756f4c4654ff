/- The journal, plain: records, the reader, what is read of them. Nothing of the program is walked here. -/
import Derived.Test.YtilkdeghknjjhaaGreatDoorPart24
import Derived.Test.YtilkdeghknjjhaaGreatDoorPart31
import Derived.Test.YtilkdeghknjjhaaGreatDoorPart08
import Derived.Lib.Itoa
import Derived.Lib.AtoiAll
import Derived.Deep.Cut
import Derived.Deep.CutRange
import Derived.Test.YtilkdeghknjjhaaGreatDoorPart03
import Derived.Test.YtilkdeghknjjhaaGreatDoorPart02
import Derived.Lib.SmallJoins
import Derived.Lib.AppendIntMem
namespace Go.Proofs.YtilkdeghknjjhaaGreatDoor
open Go.RowKit M
set_option linter.unusedVariables false

/-- A mutation of the program. -/
structure Mt where
  del : Bool
  node : Int
  count : Int
  k : ByteArray
  c : List (Int × Int)
  v : ByteArray
/-- A key and its set, as a merge keeps it. -/
structure Kp where
  k : ByteArray
  s : Se
abbrev Bs := List UInt8
def bs (b : ByteArray) : Bs := b.data.toList
theorem bs_len (b : ByteArray) : (bs b).length = b.size := by cases b; rfl
/-- A text behind its length. -/
def szB (t : Bs) : Bs := UInt8.ofNat t.length :: t
noncomputable def clkB (c : List (Int × Int)) : Bs := bs (encT c)
noncomputable def encB (m : Mt) : Bs := (if m.del = true then 2 else 1) :: (clkB [(m.node, m.count)] ++ (clkB m.c ++ (szB (bs m.k) ++ szB (bs m.v))))

/-- The reader, along a text. -/
structure Rr where
  a : Nat
  s : Bool
def rtake (l : Bs) (r : Rr) (n : Nat) : Bs × Rr := if r.s = true ∨ l.length - r.a < n then ([], ⟨r.a, true⟩) else ((l.drop r.a).take n, ⟨r.a + n, false⟩)
def rlen (l : Bs) (r : Rr) : Nat × Rr := (((rtake l r 1).1.getD 0 0).toNat, (rtake l r 1).2)
def rwords (l : Bs) (r : Rr) : Bs × Rr := rtake l (rlen l r).2 (rlen l r).1
def atoiV (t : Bs) : Int := match Lib.atoiAll t with | .ok n => n | .«syntax» => 0 | .range => Lib.atoiSat t
def atoiOK (t : Bs) : Bool := match Lib.atoiAll t with | .ok _ => true | _ => false
def rnum (l : Bs) (r : Rr) : Int × Rr := (atoiV (rwords l r).1, ⟨(rwords l r).2.a, (rwords l r).2.s || !atoiOK (rwords l r).1⟩)
/-- What the text of a clock is taken from. -/
def rpart (l : Bs) (r : Rr) : Bs × Rr := ((l.drop r.a).take ((rtake l (rlen l r).2 ((rlen l r).1 * 9)).2.a - r.a), (rtake l (rlen l r).2 ((rlen l r).1 * 9)).2)
noncomputable def rclk (l : Bs) (r : Rr) : List (Int × Int) × Rr := open Classical in
  if Dec (rpart l r).1 then (rdTo (rpart l r).1 (hd (rpart l r).1), (rpart l r).2) else ([], ⟨(rpart l r).2.a, true⟩)
noncomputable def rdot (l : Bs) (r : Rr) : (Int × Int) × Rr :=
  if (rclk l r).1.length ≠ 1 then ((0, 0), ⟨(rclk l r).2.a, true⟩) else ((rclk l r).1.getD 0 (0, 0), (rclk l r).2)
def ba (t : Bs) : ByteArray := ⟨t.toArray⟩
noncomputable def rmut (l : Bs) (r : Rr) (gone : Bool) : Mt × Rr :=
  let d := rdot l r
  let c := rclk l d.2
  let k := rwords l c.2
  let v := rwords l k.2
  (⟨gone, d.1.1, d.1.2, ba k.1, c.1, ba v.1⟩, v.2)
end Go.Proofs.YtilkdeghknjjhaaGreatDoor
/- The reader on a text that is cut off: it reads the same, or comes short. Plain facts. -/
namespace Go.Proofs.YtilkdeghknjjhaaGreatDoor
open Go.RowKit M
set_option linter.unusedVariables false

/-- A part of reading: behind what is short it stays short; it goes on within the text; on a text that is cut off it reads the same, or comes short. -/
structure Good {α : Type} (f : Bs → Rr → α × Rr) : Prop where
  stay : ∀ l r, r.s = true → (f l r).2.s = true
  mono : ∀ l r, (f l r).2.s = false → r.a ≤ l.length → r.a ≤ (f l r).2.a ∧ (f l r).2.a ≤ l.length
  cut : ∀ l r n, (f l r).2.s = false → r.a ≤ n → n ≤ l.length → ((f l r).2.a ≤ n → f (l.take n) r = f l r) ∧ (n < (f l r).2.a → (f (l.take n) r).2.s = true)
theorem Good.start {α : Type} {f : Bs → Rr → α × Rr} (h : Good f) {l : Bs} {r : Rr} (hs : (f l r).2.s = false) : r.s = false := by
  cases hr : r.s
  · rfl
  · rw [h.stay l r hr] at hs; cases hs

theorem rtake_short (l : Bs) (r : Rr) (n : Nat) (h : r.s = true ∨ l.length - r.a < n) : rtake l r n = ([], ⟨r.a, true⟩) := by unfold rtake; rw [if_pos h]
theorem rtake_ok (l : Bs) (r : Rr) (n : Nat) (h : r.s = false) (h2 : n ≤ l.length - r.a) : rtake l r n = ((l.drop r.a).take n, ⟨r.a + n, false⟩) := by
  unfold rtake; rw [if_neg (by rw [h]; simp; omega)]
theorem rtake_inv {l : Bs} {r : Rr} {n : Nat} (h : (rtake l r n).2.s = false) : r.s = false ∧ n ≤ l.length - r.a := by
  unfold rtake at h
  split at h
  · cases h
  · rename_i hn
    exact ⟨by cases hr : r.s <;> simp_all, by omega⟩
theorem good_take (m : Nat) : Good (fun l r => rtake l r m) where
  stay := fun l r h => by rw [rtake_short l r m (.inl h)]
  mono := fun l r h hl => by
    obtain ⟨h1, h2⟩ := rtake_inv h
    show r.a ≤ (rtake l r m).2.a ∧ (rtake l r m).2.a ≤ l.length
    rw [rtake_ok l r m h1 h2]
    exact ⟨Nat.le_add_right _ _, by show r.a + m ≤ _; omega⟩
  cut := fun l r n h hn hl => by
    obtain ⟨h1, h2⟩ := rtake_inv h
    show ((rtake l r m).2.a ≤ n → rtake (l.take n) r m = rtake l r m) ∧ (n < (rtake l r m).2.a → (rtake (l.take n) r m).2.s = true)
    have hlen : (l.take n).length = n := by simp; omega
    rw [rtake_ok l r m h1 h2]
    refine ⟨fun h3 => ?_, fun h3 => ?_⟩
    · have h4 : r.a + m ≤ n := h3
      rw [rtake_ok (l.take n) r m h1 (by omega), List.drop_take, List.take_take, Nat.min_eq_left (by omega)]
    · have h4 : n < r.a + m := h3
      rw [rtake_short _ _ _ (.inr (by omega))]
/-- One part behind another. -/
def bindR {α β : Type} (f : Bs → Rr → α × Rr) (g : α → Bs → Rr → β × Rr) : Bs → Rr → β × Rr := fun l r => g (f l r).1 l (f l r).2
theorem Good.bind {α β : Type} {f : Bs → Rr → α × Rr} {g : α → Bs → Rr → β × Rr} (hf : Good f) (hg : ∀ a, Good (g a)) : Good (bindR f g) where
  stay := fun l r h => (hg _).stay _ _ (hf.stay l r h)
  mono := fun l r h hl => by
    have h1 : (f l r).2.s = false := (hg _).start h
    obtain ⟨a, b⟩ := hf.mono l r h1 hl
    obtain ⟨c, d⟩ := (hg _).mono l (f l r).2 h b
    exact ⟨Nat.le_trans a c, d⟩
  cut := fun l r n h hn hl => by
    have h1 : (f l r).2.s = false := (hg _).start h
    have ⟨a, b⟩ := hf.mono l r h1 (by omega)
    have ⟨c, d⟩ := (hg _).mono l (f l r).2 h b
    obtain ⟨f1, f2⟩ := hf.cut l r n h1 hn hl
    refine ⟨fun h3 => ?_, fun h3 => ?_⟩
    · have h4 : (f l r).2.a ≤ n := Nat.le_trans c h3
      show g (f (l.take n) r).1 (l.take n) (f (l.take n) r).2 = g (f l r).1 l (f l r).2
      rw [f1 h4]
      exact ((hg _).cut l (f l r).2 n h h4 hl).1 h3
    · show (g (f (l.take n) r).1 (l.take n) (f (l.take n) r).2).2.s = true
      by_cases h4 : (f l r).2.a ≤ n
      · rw [f1 h4]
        exact ((hg _).cut l (f l r).2 n h h4 hl).2 h3
      · exact (hg _).stay _ _ (f2 (by omega))
/-- What is read is made into something else; and may not be. -/
def mapR {α β : Type} (f : Bs → Rr → α × Rr) (g : α → β) (bad : α → Bool) : Bs → Rr → β × Rr := fun l r => (g (f l r).1, ⟨(f l r).2.a, (f l r).2.s || bad (f l r).1⟩)
theorem Good.map {α β : Type} {f : Bs → Rr → α × Rr} (hf : Good f) (g : α → β) (bad : α → Bool) : Good (mapR f g bad) where
  stay := fun l r h => by show ((f l r).2.s || _) = true; rw [hf.stay l r h]; rfl
  mono := fun l r h hl => by
    have h1 : ((f l r).2.s || bad (f l r).1) = false := h
    exact hf.mono l r (by cases hs : (f l r).2.s <;> simp_all) hl
  cut := fun l r n h hn hl => by
    have h1 : ((f l r).2.s || bad (f l r).1) = false := h
    obtain ⟨f1, f2⟩ := hf.cut l r n (by cases hs : (f l r).2.s <;> simp_all) hn hl
    refine ⟨fun h3 => ?_, fun h3 => ?_⟩
    · show (_, _) = (_, _)
      rw [f1 h3]
    · show ((f (l.take n) r).2.s || _) = true
      rw [f2 h3]; rfl

theorem rlen_eq : rlen = mapR (fun l r => rtake l r 1) (fun t => (t.getD 0 0).toNat) (fun _ => false) := by
  funext l r
  show (_, _) = (_, _)
  simp
theorem good_len : Good rlen := by rw [rlen_eq]; exact (good_take 1).map _ _
theorem rwords_eq : rwords = bindR rlen (fun n l r => rtake l r n) := rfl
theorem good_words : Good rwords := good_len.bind fun n => good_take n
theorem rnum_eq : rnum = mapR rwords atoiV (fun t => !atoiOK t) := rfl
theorem good_num : Good rnum := by rw [rnum_eq]; exact good_words.map _ _
/-- The bytes of a clock's text go along. -/
def rskip (l : Bs) (r : Rr) : Unit × Rr := ((), (rtake l (rlen l r).2 ((rlen l r).1 * 9)).2)
theorem good_skip : Good rskip := by
  have : rskip = mapR (bindR rlen (fun n l r => rtake l r (n * 9))) (fun _ => ()) (fun _ => false) := by
    funext l r
    show (_, _) = (_, _)
    simp [bindR]
  rw [this]
  exact (good_len.bind fun n => good_take (n * 9)).map _ _
theorem rpart_two (l : Bs) (r : Rr) : rpart l r = ((l.drop r.a).take ((rskip l r).2.a - r.a), (rskip l r).2) := rfl
theorem good_part : Good rpart where
  stay := fun l r h => good_skip.stay l r h
  mono := fun l r h hl => good_skip.mono l r h hl
  cut := fun l r n h hn hl => by
    obtain ⟨f1, f2⟩ := good_skip.cut l r n h hn hl
    refine ⟨fun h3 => ?_, fun h3 => f2 h3⟩
    have h4 : (rskip l r).2.a ≤ n := h3
    rw [rpart_two, rpart_two, f1 h3, List.drop_take, List.take_take, Nat.min_eq_left (by omega)]
open Classical in
theorem rclk_eq : rclk = mapR rpart (fun t => if Dec t then rdTo t (hd t) else []) (fun t => !decide (Dec t)) := by
  funext l r
  unfold rclk mapR
  by_cases h : Dec (rpart l r).1
  · rw [if_pos h]; simp [h]
  · rw [if_neg h]; simp [h]
theorem good_clk : Good rclk := by rw [rclk_eq]; exact good_part.map _ _
theorem rdot_eq : rdot = mapR rclk (fun c => if c.length ≠ 1 then (0, 0) else c.getD 0 (0, 0)) (fun c => decide (c.length ≠ 1)) := by
  funext l r
  unfold rdot mapR
  by_cases h : (rclk l r).1.length ≠ 1
  · rw [if_pos h]; simp [h]
  · rw [if_neg h]
    have h1 : (rclk l r).1.length = 1 := by omega
    simp [h1]
theorem good_dot : Good rdot := by rw [rdot_eq]; exact good_clk.map _ _
theorem rmut_eq (gone : Bool) : (fun l r => rmut l r gone) = bindR rdot (fun d => bindR rclk (fun c => bindR rwords (fun k => mapR rwords (fun v => (⟨gone, d.1, d.2, ba k, c, ba v⟩ : Mt)) (fun _ => false)))) := by
  funext l r
  show (_, _) = (_, _)
  simp
theorem good_mut (gone : Bool) : Good (fun l r => rmut l r gone) := by
  rw [rmut_eq]
  exact good_dot.bind fun d => good_clk.bind fun c => good_words.bind fun k => good_words.map _ _

/-! What was written is read. -/
theorem rtake_at (pre t rest : Bs) : rtake (pre ++ (t ++ rest)) ⟨pre.length, false⟩ t.length = (t, ⟨pre.length + t.length, false⟩) := by
  rw [rtake_ok _ _ _ rfl (by simp)]
  simp
theorem rlen_at (pre : Bs) (b : UInt8) (rest : Bs) : rlen (pre ++ (b :: rest)) ⟨pre.length, false⟩ = (b.toNat, ⟨pre.length + 1, false⟩) := by
  unfold rlen
  have := rtake_at pre [b] rest
  simp at this
  rw [this]
  simp
theorem rwords_at (pre t rest : Bs) (ht : t.length ≤ 255) : rwords (pre ++ (szB t ++ rest)) ⟨pre.length, false⟩ = (t, ⟨pre.length + (szB t).length, false⟩) := by
  unfold rwords szB
  rw [List.cons_append, rlen_at]
  have h1 : (UInt8.ofNat t.length).toNat = t.length := by simp [UInt8.toNat_ofNat']; omega
  rw [h1]
  have := rtake_at (pre ++ [UInt8.ofNat t.length]) t rest
  simp at this
  rw [this]
  simp
  omega
theorem rnum_at (pre t rest : Bs) (ht : t.length ≤ 255) {n : Int} (hn : Lib.atoiAll t = .ok n) : rnum (pre ++ (szB t ++ rest)) ⟨pre.length, false⟩ = (n, ⟨pre.length + (szB t).length, false⟩) := by
  unfold rnum
  rw [rwords_at pre t rest ht]
  simp [atoiV, atoiOK, hn]
theorem clkB_eq {c : List (Int × Int)} (h : Clk c) : clkB c = toB (encL c) := by unfold clkB encT bs; rw [if_pos h, str_enc]
theorem rpart_at (pre : Bs) (c : List (Int × Int)) (rest : Bs) (h : Clk c) : rpart (pre ++ (clkB c ++ rest)) ⟨pre.length, false⟩ = (clkB c, ⟨pre.length + (clkB c).length, false⟩) := by
  have hd1 := dec_enc h
  rw [← clkB_eq h] at hd1
  obtain ⟨h1, h2, h3⟩ := hd1
  cases ht : clkB c with
  | nil => exact absurd ht h1
  | cons b t =>
    rw [ht] at h2
    have hb : hd (b :: t) = b.toNat := by simp [hd]
    rw [hb] at h2
    unfold rpart
    rw [List.cons_append, rlen_at]
    have h5 : t.length = b.toNat * 9 := by simp at h2; omega
    have := rtake_at (pre ++ [b]) t rest
    simp at this
    rw [h5] at this
    rw [this]
    simp
    constructor
    · rw [show pre.length + 1 + b.toNat * 9 - pre.length = (b.toNat * 9) + 1 by omega, List.take_succ_cons, ← h5]
      simp
    · omega
theorem rclk_at (pre : Bs) (c : List (Int × Int)) (rest : Bs) (h : Clk c) : rclk (pre ++ (clkB c ++ rest)) ⟨pre.length, false⟩ = (c, ⟨pre.length + (clkB c).length, false⟩) := by
  have hd1 := dec_enc h
  unfold rclk
  rw [rpart_at pre c rest h]
  have hd2 : Dec (clkB c) := by rw [clkB_eq h]; exact hd1
  rw [if_pos hd2]
  show (rdTo (clkB c) (hd (clkB c)), _) = _
  rw [clkB_eq h, rdTo_enc h]
theorem rdot_at (pre : Bs) (n k : Int) (rest : Bs) (h : Clk [(n, k)]) : rdot (pre ++ (clkB [(n, k)] ++ rest)) ⟨pre.length, false⟩ = ((n, k), ⟨pre.length + (clkB [(n, k)]).length, false⟩) := by
  unfold rdot
  rw [rclk_at pre _ rest h]
  simp
/-- What may stand in a record. -/
structure Mt.OK (m : Mt) : Prop where
  dot : Clk [(m.node, m.count)]
  clk : Clk m.c
  k : m.k.size ≤ 255
  v : m.v.size ≤ 255
theorem ba_bs (b : ByteArray) : ba (bs b) = b := by cases b; simp [ba, bs]
theorem bs_ba (t : Bs) : bs (ba t) = t := by simp [ba, bs]
theorem rmut_at (pre : Bs) (m : Mt) (rest : Bs) (h : m.OK) :
    rmut (pre ++ (encB m ++ rest)) ⟨pre.length + 1, false⟩ m.del = (m, ⟨pre.length + (encB m).length, false⟩) := by
  obtain ⟨h1, h2, h3, h4⟩ := h
  have e : ∀ b, pre ++ (b :: (clkB [(m.node, m.count)] ++ (clkB m.c ++ (szB (bs m.k) ++ szB (bs m.v)))) ++ rest) = (pre ++ [b]) ++ (clkB [(m.node, m.count)] ++ (clkB m.c ++ (szB (bs m.k) ++ (szB (bs m.v) ++ rest)))) := fun b => by simp
  unfold encB rmut
  obtain ⟨b, hb⟩ : ∃ b, (if m.del = true then 2 else 1 : UInt8) = b := ⟨_, rfl⟩
  rw [hb, e]
  have l1 : (⟨pre.length + 1, false⟩ : Rr) = ⟨(pre ++ [b]).length, false⟩ := by simp
  rw [l1, rdot_at _ _ _ _ h1]
  simp only
  have e2 : (pre ++ [b]) ++ (clkB [(m.node, m.count)] ++ (clkB m.c ++ (szB (bs m.k) ++ (szB (bs m.v) ++ rest)))) = ((pre ++ [b]) ++ clkB [(m.node, m.count)]) ++ (clkB m.c ++ (szB (bs m.k) ++ (szB (bs m.v) ++ rest))) := by simp
  have l2 : (⟨(pre ++ [b]).length + (clkB [(m.node, m.count)]).length, false⟩ : Rr) = ⟨((pre ++ [b]) ++ clkB [(m.node, m.count)]).length, false⟩ := by simp; omega
  rw [e2, l2, rclk_at _ _ _ h2]
  simp only
  obtain ⟨p2, hp2⟩ : ∃ p2, (pre ++ [b]) ++ clkB [(m.node, m.count)] = p2 := ⟨_, rfl⟩
  rw [hp2]
  have e3 : p2 ++ (clkB m.c ++ (szB (bs m.k) ++ (szB (bs m.v) ++ rest))) = (p2 ++ clkB m.c) ++ (szB (bs m.k) ++ (szB (bs m.v) ++ rest)) := by simp
  have l3 : (⟨p2.length + (clkB m.c).length, false⟩ : Rr) = ⟨(p2 ++ clkB m.c).length, false⟩ := by simp
  rw [e3, l3, rwords_at _ _ _ (by rw [bs_len]; exact h3)]
  simp only
  obtain ⟨p3, hp3⟩ : ∃ p3, p2 ++ clkB m.c = p3 := ⟨_, rfl⟩
  rw [hp3]
  have e4 : p3 ++ (szB (bs m.k) ++ (szB (bs m.v) ++ rest)) = (p3 ++ szB (bs m.k)) ++ (szB (bs m.v) ++ rest) := by simp
  have l4 : (⟨p3.length + (szB (bs m.k)).length, false⟩ : Rr) = ⟨(p3 ++ szB (bs m.k)).length, false⟩ := by simp
  rw [e4, l4, rwords_at _ _ _ (by rw [bs_len]; exact h4)]
  simp only [ba_bs]
  refine Prod.ext rfl ?_
  show (⟨_, _⟩ : Rr) = ⟨_, _⟩
  rw [← hp3, ← hp2]
  simp
  omega
end Go.Proofs.YtilkdeghknjjhaaGreatDoor
/- The reader's block; take, length. -/
namespace Go.Proofs.YtilkdeghknjjhaaGreatDoor
open Go.RowKit M
set_option linter.unusedVariables false

/-- The reader lies at block g. -/
def RdrAt (w : World) (g : Nat) (t : ByteArray) (r : Rr) : Prop := w.heap[g]? = some (.cells #[.string t, .int .i64 r.a, .bool r.s] 282 (0, 0))
theorem RdrAt.cell {w : World} {g : Nat} {t : ByteArray} {r : Rr} (h : RdrAt w g t r) (o : Nat) : w.cell? ⟨g, o, none⟩ = #[Value.string t, .int .i64 r.a, .bool r.s][o]? := by
  unfold RdrAt at h; simp [World.cell?, h]
theorem RdrAt.frozen {w : World} {g : Nat} {t : ByteArray} {r : Rr} (h : RdrAt w g t r) (o : Nat) : w.frozen? ⟨g, o, none⟩ = false := frozen_of_row _ _ _ _ _ h
theorem RdrAt.setA {w : World} {g : Nat} {t : ByteArray} {r : Rr} (h : RdrAt w g t r) (n : Nat) : RdrAt (w.setCell ⟨g, 1, none⟩ (.int .i64 n)) g t ⟨n, r.s⟩ := heap_setCell_self h 1 _
theorem RdrAt.setS {w : World} {g : Nat} {t : ByteArray} {r : Rr} (h : RdrAt w g t r) (b : Bool) : RdrAt (w.setCell ⟨g, 2, none⟩ (.bool b)) g t ⟨r.a, b⟩ := heap_setCell_self h 2 _
theorem RdrAt.below {w w' : World} {g : Nat} {t : ByteArray} {r : Rr} (h : RdrAt w g t r) (b : Below w.heap.size w w') : RdrAt w' g t r := heap_later b h
theorem RdrAt.tr {Y : Nat → Prop} {w w' : World} {g : Nat} {t : ByteArray} {r : Rr} (h : RdrAt w g t r) (b : Tr Y w w') (hz : ¬ Y g) : RdrAt w' g t r := b.heap h hz
/-- One block alone. -/
def One (g : Nat) : Nat → Prop := fun k => k = g
theorem Tr.set1 {g : Nat} {a w : World} (h : Tr (One g) a w) (o : Nat) (u : Value) : Tr (One g) a (w.setCell ⟨g, o, none⟩ u) := h.setCell (p := ⟨g, o, none⟩) (show One g g from rfl) u
theorem wrap64_byte (b : UInt8) : wrap64 (b.toNat : Int) = b.toNat := by
  have := b.toNat_lt
  unfold wrap64
  omega
theorem ba_extract (t : ByteArray) (a n : Nat) : ba (((bs t).drop a).take n) = t.extract a (a + n) := by
  have h : (t.extract a (a + n)).data.toList = (t.data.toList.drop a).take n := by
    rw [ByteArray.data_extract, Array.toList_extract]
    simp [List.extract]
  cases hh : t.extract a (a + n) with
  | mk d =>
    rw [hh] at h
    unfold ba bs
    rw [← h]
/-- The texts that are read: not too great. -/
def Fits (t : ByteArray) (r : Rr) : Prop := t.size ≤ 1000000000 ∧ r.a ≤ t.size

set_option maxRecDepth 20000 in
set_option maxHeartbeats 800000 in
theorem take_any (g : Nat) (t : ByteArray) (r : Rr) (n : Nat) (w : World) (h : RdrAt w g t r) (hf : Fits t r) (hn : n ≤ 100000) :
    Calls Tryz.prog 248 #[.pointer (some ⟨g, 0, none⟩), .int .i64 n] w fun e w' => e = .returned (.string (ba (rtake (bs t) r n).1)) ∧ RdrAt w' g t (rtake (bs t) r n).2 ∧ Tr (One g) w w' := by
  obtain ⟨hf1, hf2⟩ := hf
  have c0 : w.cell? ⟨g, 0, none⟩ = some (.string t) := (h.cell 0).trans rfl
  have c1 : w.cell? ⟨g, 1, none⟩ = some (.int .i64 r.a) := (h.cell 1).trans rfl
  have c2 : w.cell? ⟨g, 2, none⟩ = some (.bool r.s) := (h.cell 2).trans rfl
  have fz : ∀ o, w.frozen? ⟨g, o, none⟩ = false := h.frozen
  have HZ : Hid (RdrAt w g t r) := h
  have a0 : (0 : Int) ≤ (r.a : Int) := by omega
  have a1 : (r.a : Int) ≤ (t.size : Int) := by omega
  have a2 : (t.size : Int) ≤ 1000000000 := by omega
  have n0 : (0 : Int) ≤ (n : Int) := by omega
  have n1 : (n : Int) ≤ 100000 := by omega
  clear h
  cases hs : r.s
  · rw [hs] at c2
    by_cases hb : t.size - r.a < n
    · have HR : Hid (rtake (bs t) r n = ([], ⟨r.a, true⟩)) := rtake_short _ _ _ (.inr (by rw [bs_len]; exact hb))
      have q : (t.size : Int) - (r.a : Int) < (n : Int) := by omega
      clear hs hf1 hf2 hn hb
      go_enter Tryz.func248, Tryz.ntmps248
      go_upto_region 2 with (fail)
      go_quiet (fail)
      go_wp2
      go_ret
      exact ⟨by rw [HR.out]; rfl, by rw [HR.out]; exact HZ.out.setS true, ((Tr.refl (One g) w).drewN _).set1 _ _⟩
    · have HR : Hid (rtake (bs t) r n = (((bs t).drop r.a).take n, ⟨r.a + n, false⟩)) := rtake_ok _ _ _ hs (by rw [bs_len]; omega)
      have q : ¬ (t.size : Int) - (r.a : Int) < (n : Int) := by omega
      have HS : Hid (r.s = false) := hs
      clear hs hf1 hf2 hn hb
      go_enter Tryz.func248, Tryz.ntmps248
      go_upto_region 2 with (fail)
      go_quiet (fail)
      go_upto_region 4 with (fail)
      go_quiet (fail)
      go_wp2
      go_ret
      refine ⟨by rw [HR.out, ba_extract]; rfl, ?_, ((Tr.refl (One g) w).drewN _).set1 _ _⟩
      rw [HR.out]
      have := HZ.out.setA (r.a + n)
      rw [HS.out] at this
      exact this
  · have HR : Hid (rtake (bs t) r n = ([], ⟨r.a, true⟩)) := rtake_short _ _ _ (.inl hs)
    rw [hs] at c2
    clear hs hf1 hf2 hn
    go_enter Tryz.func248, Tryz.ntmps248
    go_upto_region 2 with (fail)
    go_quiet (fail)
    go_wp2
    go_ret
    exact ⟨by rw [HR.out]; rfl, by rw [HR.out]; exact HZ.out.setS true, ((Tr.refl (One g) w).drewN _).set1 _ _⟩
theorem rtake_fits {t : ByteArray} {r : Rr} (h : Fits t r) (n : Nat) : Fits t (rtake (bs t) r n).2 := by
  refine ⟨h.1, ?_⟩
  unfold rtake
  split
  · exact h.2
  · rename_i hc
    show r.a + n ≤ t.size
    have := h.2
    rw [bs_len] at hc
    simp at hc
    omega
theorem rlen_fits {t : ByteArray} {r : Rr} (h : Fits t r) : Fits t (rlen (bs t) r).2 := rtake_fits h 1
theorem rlen_le (l : Bs) (r : Rr) : (rlen l r).1 ≤ 255 := by
  unfold rlen
  have := ((rtake l r 1).1.getD 0 0).toNat_lt
  simp only
  omega

set_option maxRecDepth 20000 in
set_option maxHeartbeats 800000 in
theorem length_any (g : Nat) (t : ByteArray) (r : Rr) (w : World) (h : RdrAt w g t r) (hf : Fits t r) :
    Calls Tryz.prog 225 #[.pointer (some ⟨g, 0, none⟩)] w fun e w' => e = .returned (.int .i64 (rlen (bs t) r).1) ∧ RdrAt w' g t (rlen (bs t) r).2 ∧ Tr (One g) w w' := by
  have HT := take_any g t r 1 w h hf (by omega)
  have HT' : Hid (Calls Tryz.prog 248 #[.pointer (some ⟨g, 0, none⟩), .int .i64 1] w fun e w' => e = .returned (.string (ba (rtake (bs t) r 1).1)) ∧ RdrAt w' g t (rtake (bs t) r 1).2 ∧ Tr (One g) w w') := HT
  have HE : Hid ((rtake (bs t) r 1).1 = [] ∨ ∃ b, (rtake (bs t) r 1).1 = [b]) := by
    show _ ∨ _
    unfold rtake
    split
    · exact .inl rfl
    · show ((bs t).drop r.a).take 1 = [] ∨ ∃ b, ((bs t).drop r.a).take 1 = [b]
      cases (bs t).drop r.a with
      | nil => exact .inl rfl
      | cons b x => exact .inr ⟨b, rfl⟩
  have HL : Hid (rlen (bs t) r = (((rtake (bs t) r 1).1.getD 0 0).toNat, (rtake (bs t) r 1).2)) := rfl
  obtain ⟨q, hq⟩ : ∃ q, rtake (bs t) r 1 = q := ⟨_, rfl⟩
  rw [hq] at HT' HE HL
  clear HT h hf hq
  go_enter Tryz.func225, Tryz.ntmps225
  go_wp2_with fail
  refine HT'.out.mono ?_
  rintro e w1 ⟨rfl, h1, t1⟩
  rcases HE.out with he | ⟨b, he⟩
  · have HL2 : Hid ((rlen (bs t) r).1 = 0 ∧ (rlen (bs t) r).2 = q.2) := by rw [HL.out, he]; exact ⟨rfl, rfl⟩
    rw [he]
    have hb0 : ba [] = ByteArray.empty := rfl
    rw [hb0]
    clear he
    go_wp2
    go_ret
    exact ⟨by rw [HL2.out.1]; rfl, by rw [HL2.out.2]; exact h1, t1⟩
  · have HL2 : Hid ((rlen (bs t) r).1 = b.toNat ∧ (rlen (bs t) r).2 = q.2) := by rw [HL.out, he]; exact ⟨rfl, rfl⟩
    rw [he]
    clear he
    have e1 : ((ba [b]).toList == ([] : List UInt8)) = false := by rw [Lib.toList_data]; simp [ba]
    have e2 : 0 < (ba [b]).size := Nat.zero_lt_one
    go_wp2
    go_ret
    exact ⟨by rw [HL2.out.1]; exact congrArg (fun q => Ending.returned (.int .i64 q)) (wrap64_byte b), by rw [HL2.out.2]; exact h1, t1⟩
end Go.Proofs.YtilkdeghknjjhaaGreatDoor
/- The library's variables, and its calls: Itoa, Atoi, Clone, fileName. -/
namespace Go.Proofs.YtilkdeghknjjhaaGreatDoor
open Go.RowKit
set_option linter.unusedVariables false

/-- The variables of the library, as they are laid. -/
structure Vars (w : World) : Prop where
  tab : Lib.TabIs Tryz.prog w "internal/strconv.uint64pow10" .u64 Lib.pow10Tab
  e3 : ∃ ev, w.cell? ⟨3, 0, none⟩ = some ev ∧ (ev = .nilIface ∨ ∃ te pe, ev = .iface te pe)
  e4 : ∃ ev, w.cell? ⟨4, 0, none⟩ = some ev ∧ (ev = .nilIface ∨ ∃ te pe, ev = .iface te pe)
theorem gtab : Tryz.prog.globalNamed "internal/strconv.uint64pow10" = some 0 := by kernel_rfl
theorem Vars.of {w w' : World} (h : Vars w) (hk : ∀ k, k < 5 → w'.heap[k]? = w.heap[k]?) : Vars w' := by
  obtain ⟨h1, ⟨e3, a3, b3⟩, ⟨e4, a4, b4⟩⟩ := h
  refine ⟨?_, ⟨e3, (World.cell?_of_block (hk 3 (by omega))).trans a3, b3⟩, ⟨e4, (World.cell?_of_block (hk 4 (by omega))).trans a4, b4⟩⟩
  unfold Lib.TabIs World.var? at h1 ⊢
  rw [gtab] at h1 ⊢
  simp only [Option.bind_some] at h1 ⊢
  rw [hk 0 (by omega)]
  exact h1
theorem Vars.five {w : World} (h : Vars w) : 5 ≤ w.heap.size := by
  obtain ⟨e4, a4, b4⟩ := h.e4
  have := World.block_lt_of_cell? w _ a4
  exact this
theorem Vars.below {w w' : World} (h : Vars w) (b : Below w.heap.size w w') : Vars w' := h.of fun k hk => b.block k (by have := h.five; omega)
theorem Vars.tr {Z : Nat → Prop} {w w' : World} (h : Vars w) (t : Tr Z w w') (hz : ∀ k, k < 5 → ¬ Z k) : Vars w' := h.of fun k hk => t.block k (by have := h.five; omega) (hz k hk)

theorem Itoa_any (n : Nat) (w : World) (hn : n < 9223372036854775808) (hv : Vars w) :
    Calls Tryz.prog 26 #[.int .i64 n] w fun e w' => e = .returned (.string (ba (Lib.itoa n))) ∧ Below w.heap.size w w' :=
  (Tryz.strconv_Itoa n (by omega) (by omega) w hv.tab).mono fun e w' ⟨he, k, os, hw⟩ => ⟨he, by rw [hw]; exact Lib.below_grow _ w (Nat.le_refl _) k os⟩
theorem Atoi_any (s : ByteArray) (w : World) (hs : s.size ≤ 1000000000) (hv : Vars w) :
    Calls Tryz.prog 197 #[.string s] w fun e w' => ∃ er, e = .returned (.tuple #[.int .i64 (atoiV (bs s)), er]) ∧ Below w.heap.size w w' ∧ (if atoiOK (bs s) = true then er = .nilIface else ∃ t p, er = .iface t p) := by
  obtain ⟨h1, ⟨e3, a3, b3⟩, ⟨e4, a4, b4⟩⟩ := hv
  cases h : Lib.atoiAll s.data.toList with
  | ok v =>
    refine (Tryz.strconv_Atoi_ok s (by omega) v h w).mono fun e w' ⟨he, hw⟩ => ⟨.nilIface, ?_, ?_, ?_⟩
    · rw [he]; unfold atoiV bs; rw [h]
    · rcases hw with rfl | ⟨t, rfl⟩
      · exact Below.refl _ _
      · exact Lib.bytesWorld_below w 5 t
    · unfold atoiOK bs; rw [h]; rfl
  | «syntax» =>
    refine (Tryz.strconv_Atoi_syntax s (by omega) h e3 w a3 b3).mono fun e w' ⟨N, he, _, _, hb⟩ => ⟨.iface 302 (.pointer (some ⟨N, 0, none⟩)), ?_, hb, ?_⟩
    · rw [he]; unfold atoiV bs; rw [h]
    · unfold atoiOK bs; rw [h]; exact ⟨_, _, rfl⟩
  | range =>
    refine (Tryz.strconv_Atoi_range s (by omega) h e4 w a4 b4).mono fun e w' ⟨N, he, _, _, hb⟩ => ⟨.iface 302 (.pointer (some ⟨N, 0, none⟩)), ?_, hb, ?_⟩
    · rw [he]; unfold atoiV bs; rw [h]
    · unfold atoiOK bs; rw [h]; exact ⟨_, _, rfl⟩

set_option maxHeartbeats 400000 in
theorem Clone_any (s : ByteArray) (w : World) (hs : s.size ≤ 1000000000) :
    Calls Tryz.prog 90 #[.string s] w fun e w' => e = .returned (.string s) ∧ Below w.heap.size w w' := by
  go_enter Tryz.func90, Tryz.ntmps90
  go_wp2_with fail
  refine (Tryz.stringslite_Clone s w (by omega)).mono ?_
  rintro e w' ⟨rfl, hb⟩
  go_wp2
  go_ret
  exact ⟨rfl, hb⟩

theorem itoa_size {n : Nat} (hn : n < 9223372036854775808) : (ba (Lib.itoa n)).size ≤ 19 := by
  have h1 := itoa_len n (by omega)
  have : (ba (Lib.itoa n)).size = (Lib.itoa n).length := by simp [ba, ByteArray.size]
  omega
/-- A file's name. -/
def fnm (n : Nat) : ByteArray := (⟨#[100, 97, 116, 97, 46]⟩ : ByteArray) ++ ba (Lib.itoa n)
set_option maxHeartbeats 400000 in
theorem fileName_any (n : Nat) (w : World) (hn : n < 9223372036854775808) (hv : Vars w) :
    Calls Tryz.prog 125 #[.int .i64 n] w fun e w' => e = .returned (.string (fnm n)) ∧ Below w.heap.size w w' := by
  have hI := Itoa_any n w hn hv
  have hl := itoa_size hn
  obtain ⟨s, hs⟩ : ∃ s, ba (Lib.itoa n) = s := ⟨_, rfl⟩
  have HF : Hid (fnm n = (⟨#[100, 97, 116, 97, 46]⟩ : ByteArray) ++ s) := by rw [← hs]; rfl
  rw [hs] at hI hl
  have hadd : ¬ 9223372036854775807 < 5 + s.size := by omega
  clear hs
  go_enter Tryz.func125, Tryz.ntmps125
  go_wp2_with fail
  refine hI.mono ?_
  rintro e w' ⟨rfl, hb⟩
  go_wp2
  go_ret
  exact ⟨by rw [HF.out]; rfl, hb⟩
end Go.Proofs.YtilkdeghknjjhaaGreatDoor
/- Small joins for regions: blocks that were made, worlds that grow. -/
namespace Go.Proofs.YtilkdeghknjjhaaGreatDoor
open Go.RowKit M
set_option linter.unusedVariables false

theorem rowA {X w1 : World} {c : Array Value} {t : TypeId} (hb : Below (X.alloc (.cells c t)).heap.size (X.alloc (.cells c t)) w1) : w1.heap[X.heap.size]? = some (.cells c t (0, 0)) := heap_later hb (heap_alloc_new X _)
theorem rowD {X w1 : World} {c : Array Value} {t : TypeId} (hb : Below (X.alloc (.cells c t)).drew.heap.size (X.alloc (.cells c t)).drew w1) : w1.heap[X.heap.size]? = some (.cells c t (0, 0)) := heap_later hb (heap_alloc_new X _)
theorem rowL {X w1 : World} {g : Nat} {c : Array Value} {t : TypeId} (hr : X.heap[g]? = some (.cells c t (0, 0))) (hb : Below X.heap.size X w1) : w1.heap[g]? = some (.cells c t (0, 0)) := heap_later hb hr
theorem belowN {a X w1 : World} (h : Below a.heap.size a X) (hb : Below X.heap.size X w1) : Below a.heap.size a w1 := h.trans (hb.mono h.size)
theorem belowA {a X : World} {o : Obj} (h : Below a.heap.size a X) : Below a.heap.size a (X.alloc o) := h.alloc h.size o
theorem keep5 {a X : World} {p1 p2 p3 p4 p5 : Addr} {v1 v2 v3 v4 v5 : Value} (c1 : a.cell? p1 = some v1) (c2 : a.cell? p2 = some v2) (c3 : a.cell? p3 = some v3) (c4 : a.cell? p4 = some v4) (c5 : a.cell? p5 = some v5) (hB : Below a.heap.size a X) :
    X.cell? p1 = some v1 ∧ X.cell? p2 = some v2 ∧ X.cell? p3 = some v3 ∧ X.cell? p4 = some v4 ∧ X.cell? p5 = some v5 ∧ Below a.heap.size a X := ⟨cell_later hB c1, cell_later hB c2, cell_later hB c3, cell_later hB c4, cell_later hB c5, hB⟩
end Go.Proofs.YtilkdeghknjjhaaGreatDoor
/- The reader: words, number, clock, dot, mutation. -/
namespace Go.Proofs.YtilkdeghknjjhaaGreatDoor
open Go.RowKit M
set_option linter.unusedVariables false

theorem ba_size (l : Bs) : (ba l).size = l.length := by simp [ba, ByteArray.size]
theorem rtake_len (l : Bs) (r : Rr) (n : Nat) : (rtake l r n).1.length ≤ n := by
  unfold rtake
  split
  · simp
  · simp; omega
theorem rwords_len (l : Bs) (r : Rr) : (rwords l r).1.length ≤ 255 := Nat.le_trans (rtake_len _ _ _) (rlen_le l r)
theorem rwords_fits {t : ByteArray} {r : Rr} (h : Fits t r) : Fits t (rwords (bs t) r).2 := rtake_fits (rlen_fits h) _

set_option maxRecDepth 20000 in
set_option maxHeartbeats 800000 in
theorem words_any (g : Nat) (t : ByteArray) (r : Rr) (w : World) (h : RdrAt w g t r) (hf : Fits t r) :
    Calls Tryz.prog 284 #[.pointer (some ⟨g, 0, none⟩)] w fun e w' => e = .returned (.string (ba (rwords (bs t) r).1)) ∧ RdrAt w' g t (rwords (bs t) r).2 ∧ Tr (One g) w w' := by
  have hL := length_any g t r w h hf
  have HT : Hid (∀ w1, RdrAt w1 g t (rlen (bs t) r).2 → Calls Tryz.prog 248 #[.pointer (some ⟨g, 0, none⟩), .int .i64 (rlen (bs t) r).1] w1 fun e w' => e = .returned (.string (ba (rwords (bs t) r).1)) ∧ RdrAt w' g t (rwords (bs t) r).2 ∧ Tr (One g) w1 w') :=
    fun w1 h1 => take_any g t _ _ w1 h1 (rlen_fits hf) (by have := rlen_le (bs t) r; omega)
  have hln := rwords_len (bs t) r
  obtain ⟨n, hn⟩ : ∃ n, (rlen (bs t) r).1 = n := ⟨_, rfl⟩
  obtain ⟨q, hq⟩ : ∃ q, rwords (bs t) r = q := ⟨_, rfl⟩
  rw [hq] at HT hln ⊢
  rw [hn] at HT hL
  have hs : (ba q.1).size ≤ 1000000000 := by rw [ba_size]; omega
  have HC : Hid (∀ w1, Calls Tryz.prog 90 #[.string (ba q.1)] w1 fun e w' => e = .returned (.string (ba q.1)) ∧ Below w1.heap.size w1 w') := fun w1 => Clone_any _ w1 hs
  obtain ⟨s, hsq⟩ : ∃ s, ba q.1 = s := ⟨_, rfl⟩
  rw [hsq] at HT HC ⊢
  clear hn hq h hf hln hs hsq
  go_enter Tryz.func284, Tryz.ntmps284
  go_wp2_with fail
  refine hL.mono ?_
  rintro e w1 ⟨rfl, h1, t1⟩
  go_wp2_with fail
  refine (HT.out w1 h1).mono ?_
  rintro e w2 ⟨rfl, h2, t2⟩
  go_wp2_with fail
  refine (HC.out w2).mono ?_
  rintro e w3 ⟨rfl, hb⟩
  go_wp2
  go_ret
  exact ⟨rfl, h2.below hb, (t1.trans t2).trans (below_tr hb _)⟩

theorem rnum_fits {t : ByteArray} {r : Rr} (h : Fits t r) : Fits t (rnum (bs t) r).2 := rwords_fits h
set_option maxRecDepth 20000 in
set_option maxHeartbeats 800000 in
theorem number_any (g : Nat) (t : ByteArray) (r : Rr) (w : World) (h : RdrAt w g t r) (hf : Fits t r) (hv : Vars w) (hg : 5 ≤ g) :
    Calls Tryz.prog 226 #[.pointer (some ⟨g, 0, none⟩)] w fun e w' => e = .returned (.int .i64 (rnum (bs t) r).1) ∧ RdrAt w' g t (rnum (bs t) r).2 ∧ Tr (One g) w w' := by
  have hL := length_any g t r w h hf
  have HT : Hid (∀ w1, RdrAt w1 g t (rlen (bs t) r).2 → Calls Tryz.prog 248 #[.pointer (some ⟨g, 0, none⟩), .int .i64 (rlen (bs t) r).1] w1 fun e w' => e = .returned (.string (ba (rwords (bs t) r).1)) ∧ RdrAt w' g t (rwords (bs t) r).2 ∧ Tr (One g) w1 w') :=
    fun w1 h1 => take_any g t _ _ w1 h1 (rlen_fits hf) (by have := rlen_le (bs t) r; omega)
  have hln := rwords_len (bs t) r
  have HN : Hid (rnum (bs t) r = (atoiV (rwords (bs t) r).1, ⟨(rwords (bs t) r).2.a, (rwords (bs t) r).2.s || !atoiOK (rwords (bs t) r).1⟩)) := rfl
  obtain ⟨n, hn⟩ : ∃ n, (rlen (bs t) r).1 = n := ⟨_, rfl⟩
  obtain ⟨q, hq⟩ : ∃ q, rwords (bs t) r = q := ⟨_, rfl⟩
  rw [hq] at HT hln HN
  rw [hn] at HT hL
  have hs : (ba q.1).size ≤ 1000000000 := by rw [ba_size]; omega
  have HC : Hid (∀ w1, Vars w1 → Calls Tryz.prog 197 #[.string (ba q.1)] w1 fun e w' => ∃ er, e = .returned (.tuple #[.int .i64 (atoiV q.1), er]) ∧ Below w1.heap.size w1 w' ∧ (if atoiOK q.1 = true then er = .nilIface else ∃ t p, er = .iface t p)) :=
    fun w1 hv1 => by have := Atoi_any (ba q.1) w1 hs hv1; rw [bs_ba] at this; exact this
  obtain ⟨s, hsq⟩ : ∃ s, ba q.1 = s := ⟨_, rfl⟩
  rw [hsq] at HT HC
  have HV : Hid (∀ w1, Tr (One g) w w1 → Vars w1) := fun w1 t1 => hv.tr t1 (fun k hk hz => by have : k = g := hz; omega)
  clear hn hq h hf hln hs hsq hv hg
  go_enter Tryz.func226, Tryz.ntmps226
  go_wp2_with fail
  refine hL.mono ?_
  rintro e w1 ⟨rfl, h1, t1⟩
  go_wp2_with fail
  refine (HT.out w1 h1).mono ?_
  rintro e w2 ⟨rfl, h2, t2⟩
  go_wp2_with fail
  refine (HC.out w2 (HV.out w2 (t1.trans t2))).mono ?_
  rintro e w3 ⟨er, rfl, hb, her⟩
  have h3 := h2.below hb
  have t3 := (t1.trans t2).trans (below_tr hb (One g))
  cases ho : atoiOK q.1
  · rw [ho] at her
    simp only [Bool.false_eq_true, if_false] at her
    obtain ⟨ty, pv, rfl⟩ := her
    have HR : Hid ((rnum (bs t) r).1 = atoiV q.1 ∧ (rnum (bs t) r).2 = ⟨q.2.a, true⟩) := by rw [HN.out, ho]; exact ⟨rfl, by simp⟩
    have c2 : w3.cell? ⟨g, 2, none⟩ = some (.bool q.2.s) := (h3.cell 2).trans rfl
    have fz : ∀ o, w3.frozen? ⟨g, o, none⟩ = false := h3.frozen
    clear ho hb
    go_wp2
    go_ret
    exact ⟨by rw [HR.out.1]; rfl, by rw [HR.out.2]; exact h3.setS true, t3.set1 _ _⟩
  · rw [ho] at her
    simp only [if_true] at her
    subst her
    have HR : Hid ((rnum (bs t) r).1 = atoiV q.1 ∧ (rnum (bs t) r).2 = q.2) := by rw [HN.out, ho]; exact ⟨rfl, by simp⟩
    clear ho hb
    go_wp2
    go_ret
    exact ⟨by rw [HR.out.1]; rfl, by rw [HR.out.2]; exact h3, t3⟩
end Go.Proofs.YtilkdeghknjjhaaGreatDoor
