/- A disk that does what it should. Plain facts. -/
import Derived.Test.YtilkdeghknjjhaaGreatDoorPart48
namespace Go.Proofs.YtilkdeghknjjhaaGreatDoor
open Go.RowKit M
set_option linter.unusedVariables false

/-- Neither fails nor dies. -/
structure Dk.Sound (D : Dk) : Prop where
  w : D.wait < 0
  l : D.life < 0
/-- .. and it is as sound behind a call, and none has failed. -/
def Keeps (D E : Dk) : Prop := E.Sound ∧ E.failed = D.failed
theorem Keeps.refl {D : Dk} (h : D.Sound) : Keeps D D := ⟨h, rfl⟩
theorem Keeps.trans {D E F : Dk} (h : Keeps D E) (k : Keeps E F) : Keeps D F := ⟨k.1, k.2.trans h.2⟩
theorem Dk.Sound.may {D : Dk} (h : D.Sound) : D.may = true := by
  have h1 : ¬ D.life = 0 := by have := h.l; omega
  have h2 : ¬ D.wait = 0 := by have := h.w; omega
  unfold Dk.may; simp [h1, h2]
theorem Dk.Sound.chg {D : Dk} (h : D.Sound) : D.chg = D := by
  have h1 : ¬ 0 < D.life := by have := h.l; omega
  have h2 : ¬ 0 < D.wait := by have := h.w; omega
  unfold Dk.chg
  rw [if_pos h.may, if_neg h1, if_neg h2]
theorem Dk.Sound.sync {D : Dk} (h : D.Sound) (n : ByteArray) : Keeps D (D.sync n) := by
  unfold Dk.sync
  rw [h.chg]
  split <;> exact ⟨⟨h.w, h.l⟩, rfl⟩
theorem Dk.Sound.syncDir {D : Dk} (h : D.Sound) : Keeps D D.syncDir := by
  unfold Dk.syncDir
  rw [h.chg]
  split <;> exact ⟨⟨h.w, h.l⟩, rfl⟩
theorem Dk.Sound.append {D : Dk} (h : D.Sound) (n t : ByteArray) : Keeps D (D.append n t) := by
  unfold Dk.append
  rw [h.chg]
  split <;> exact ⟨⟨h.w, h.l⟩, rfl⟩
theorem Dk.Sound.create {D : Dk} (h : D.Sound) (n : ByteArray) : Keeps D (D.create n) := by
  unfold Dk.create
  rw [h.chg]
  split <;> exact ⟨⟨h.w, h.l⟩, rfl⟩
theorem sound_jsl {D : Dk} (h : D.Sound) (J : Jn) : Keeps D (jsl D J).2 := by
  unfold jsl
  split
  · exact Keeps.refl h
  · exact h.sync _
theorem sound_jsync {D : Dk} (h : D.Sound) (J : Jn) : Keeps D (jsync D J).2 := by
  have h1 := sound_jsl h J
  unfold jsync
  split
  · exact h1.trans h1.1.syncDir
  · exact h1
theorem sound_jbegin {D : Dk} (h : D.Sound) (J : Jn) : Keeps D (jbegin D J).2.1 := by
  have h1 := sound_jsl h J
  unfold jbegin
  split
  · exact h1
  · split <;> exact h1.trans (h1.1.create _)
theorem sound_jwrite {D : Dk} (h : D.Sound) (J : Jn) (t : ByteArray) : Keeps D (jwrite D J t).2.1 := by
  unfold jwrite
  split <;> exact h.append _ _
theorem sound_jappend {D : Dk} (h : D.Sound) (J : Jn) (t : ByteArray) : Keeps D (jappend D J t).2.1 := by
  unfold jappend
  split
  · have h1 := sound_jbegin h J
    split
    · exact h1.trans (sound_jwrite h1.1 _ _)
    · exact h1
  · exact sound_jwrite h J t
theorem sound_hold {D : Dk} (h : D.Sound) (J : Jn) (S : St) : Keeps D (holdF D J S).2.1 := by
  have h1 := sound_jsync h J
  unfold holdF
  split <;> exact h1
theorem sound_write {D : Dk} (h : D.Sound) (J : Jn) (S : St) (t : ByteArray) : Keeps D (writeF D J S t).2.1 := by
  have h1 := sound_jappend h J t
  unfold writeF
  split
  · exact h1
  · split
    · exact h1
    · exact h1.trans (sound_hold h1.1 _ _)
theorem sound_do {D : Dk} (h : D.Sound) (J : Jn) (S : St) (m : Mt) : Keeps D (doF D J S m).2.1 := by
  unfold doF doG
  split
  · exact Keeps.refl h
  · split
    · exact Keeps.refl h
    · have h1 := sound_write h J { S with M := keepM S.M m.k ⟨(outF (S.M m.k) m).1, (outF (S.M m.k) m).2.1⟩, cnt := m.count } (encM m)
      unfold doW
      split <;> exact h1
theorem stopF_D (q : Int × Dk × Jn × St) : (stopF q).2.1 = q.2.1 := by unfold stopF; split <;> rfl
theorem sound_put {D : Dk} (h : D.Sound) (J : Jn) (S : St) (k v c : ByteArray) : Keeps D (putF D J S k v c).2.1 := by
  unfold putF
  rw [stopF_D]
  split
  · exact sound_do h J S _
  · exact Keeps.refl h
/-- A value that is put, on a disk that does what it should and has room: it is put. -/
theorem put_done {nd : Int} {D : Dk} {J : Jn} {S : St} {ms : List Mt} {hd n : Nat} {k v c : ByteArray} (h : SI nd D J S ms hd) (hs : D.Sound) (hb : D.Bud (n + 5)) (hn : 900000000 ≤ n) (hroom : 4000 ≤ D.cap - D.bytes) (hm0 : (mutF S k v c).2 = 0) (hm : MtAt nd S.M S.cnt (mutF S k v c).1) :
    (putF D J S k v c).1 = 0 ∧ SI nd (putF D J S k v c).2.1 (putF D J S k v c).2.2.1 (putF D J S k v c).2.2.2 (ms ++ [(mutF S k v c).1]) (heldE S.every ms.length hd) ∧ (putF D J S k v c).2.1.cap = D.cap ∧ (putF D J S k v c).2.1.Sound ∧ (putF D J S k v c).2.2.2.every = S.every := by
  have hk := sound_put hs J S k v c
  have hd2 := sound_do hs J S (mutF S k v c).1
  have hr := doF_res h hb hn hm
  have e : putF D J S k v c = stopF (doF D J S (mutF S k v c).1) := by unfold putF; rw [if_pos hm0]
  obtain ⟨q, hq⟩ : ∃ q, doF D J S (mutF S k v c).1 = q := ⟨_, rfl⟩
  rw [hq] at hr e hd2
  rw [e] at hk ⊢
  cases hr with
  | full hf => omega
  | done D' J' S' h1 h2 h3 h4 h5 =>
    refine ⟨rfl, h1, h3, hk.1, h4⟩
  | fail D' J' S' ms' h1 h2 h3 =>
    have := hd2.2
    simp only at this
    omega
end Go.Proofs.YtilkdeghknjjhaaGreatDoor
