/- slices.Insert of one value, wherever; insert. -/
import Derived.Test.YtkiipmdplpcfeaaY3
import Derived.WalkKit
import Derived.WalkSpells
import Derived.WalkLawsBesides
namespace Go.Proofs.Ytkiipmdplpcfeaa
open Go.RowKit M
set_option linter.unusedVariables false

theorem ownsRow_below {w w' : World} {B n : Nat} {e : TypeId} {size : Nat} {v : Value} {xs : List Value} (h : w.ownsRow B e size v n xs) (hb : Below w.heap.size w w') : w'.ownsRow B e size v n xs := by
  refine ⟨h.1, ?_⟩
  rcases h.2 with hn | ⟨g, cap, cur, rfl, h1, h2, rest⟩
  · exact .inl hn
  · exact .inr ⟨g, cap, cur, rfl, h1, (hb.block g (Array.getElem?_eq_some_iff.1 h2).1).trans h2, rest⟩

theorem Insert_any (B : Nat) (v : Value) (l : List Sb) (x : Sb) (g2 c2 k : Nat) (w : World) (hB : B ≤ w.heap.size) (hown : w.ownsRow B 57 3 v l.length (cellsS l)) (hl : l.length ≤ 1000) (hk : k ≤ l.length)
    (hne : v.ownBlock ≠ some g2) (hx : w.heap[g2]? = some (.cells #[Value.int .i64 x.n, Value.int .i64 x.c, Value.string x.v] 57 (0, 0))) :
    Calls Try.prog 53 #[v, .int .i64 (k : Int), .slice (some ⟨g2, 0, none⟩) 1 c2] w fun e w' => ∃ v', e = .returned v' ∧ w'.ownsRow B 57 3 v' (l.length + 1) (cellsS (put l k x)) ∧ Below B w w' := by
  by_cases he : k = l.length
  · subst he
    exact Insert_end B v l x g2 c2 w hB hown hl (fun j u hu => by rw [Addr.add_lit, cell_of_row _ _ _ _ _ _ hx]; simpa using hu)
  · rcases hown.2 with ⟨_, h0⟩ | ⟨g, cap, cur, rfl, h1, h2, h3, h4, h5, h6⟩
    · omega
    · have hne' : g2 ≠ g := by
        intro h
        subst h
        exact hne rfl
      by_cases hroom : l.length + 1 ≤ cap
      · exact Insert_shift B g cap cur.toList l x g2 c2 k w h1 hB (by simpa using h2) (by simpa using h5) (by simpa using h6) h4 hl (by omega) hroom hne' hx
      · exact Insert_grow B g cap cur.toList l x g2 c2 k w hB (by simpa using h2) (by simpa using h5) (by simpa using h6) h3 hl (by omega) (by omega) hx

/-- Where a value belongs. -/
def Place (l : List Sb) (x : Sb) (k : Nat) : Prop := k ≤ l.length ∧ (0 < k → cd (sb l (k - 1)) x < 0) ∧ (k < l.length → 0 ≤ cd (sb l k) x)
def InsEnd (B : Nat) (w : World) (l : List Sb) (x : Sb) (e : Ending) (w' : World) : Prop :=
  ∃ k v', e = .returned v' ∧ Place l x k ∧ w'.ownsRow B 57 3 v' (l.length + 1) (cellsS (put l k x)) ∧ Below B w w'

set_option maxRecDepth 40000 in
set_option maxHeartbeats 1600000 in
theorem insert_any (B : Nat) (v : Value) (l : List Sb) (x : Sb) (w : World) (hB : B ≤ w.heap.size) (hown : w.ownsRow B 57 3 v l.length (cellsS l)) (hl : l.length ≤ 1000) :
    Calls Try.prog 47 #[v, .agg #[.int .i64 x.n, .int .i64 x.c, .string x.v]] w fun e w' => InsEnd B w l x e w' := by
  have hlt := hown.lt
  go_enter Try.func47, Try.ntmps47
  go_wp2_with fail
  obtain ⟨W, hW, hb, t0, t1, t2⟩ : ∃ W, (w.alloc (.cells #[.int .i64 x.n, .int .i64 x.c, .string x.v] 57)) = W ∧ Below w.heap.size w W ∧
      W.cell? ⟨w.heap.size, 0, none⟩ = some (.int .i64 x.n) ∧ W.cell? ⟨w.heap.size, 1, none⟩ = some (.int .i64 x.c) ∧ W.cell? ⟨w.heap.size, 2, none⟩ = some (.string x.v) :=
    ⟨_, rfl, (Below.refl _ _).alloc (Nat.le_refl _) _, by simp [go_sem], by simp [go_sem], by simp [go_sem]⟩
  have hown1 : W.ownsRow B 57 3 v l.length (cellsS l) := ownsRow_below hown hb
  rw [hW]
  go_wp2_with fail
  refine (BinarySearch_any v l x W (RdS.own hown1 rfl) hl).mono ?_
  rintro e w1 ⟨k, f, rfl, hk, hk1, hk2, hb2⟩
  have e0 := cell_later hb2 t0
  have e1 := cell_later hb2 t1
  have e2 := cell_later hb2 t2
  have hown2 : w1.ownsRow B 57 3 v l.length (cellsS l) := ownsRow_below hown1 hb2
  have hs1 := hb.size
  have hs2 := hb2.size
  have hb3 : Below B w w1 := (hb.mono hB).trans (hb2.mono (by omega))
  have HP : Hid (Place l x k) := ⟨hk, hk1, hk2⟩
  have HO : Hid (w1.ownsRow B 57 3 v l.length (cellsS l)) := hown2
  have HL : Hid (∀ j, v.ownBlock = some j → B ≤ j ∧ j < w.heap.size) := hlt
  clear hown hown1 hown2 hlt t0 t1 t2 hW hk1 hk2
  go_wp2_with fail
  refine (Insert_any B v l x w1.heap.size _ k _ (by simp; omega) (HO.out.alloc _) hl hk (fun h => by have := (HL.out _ h).2; omega) (heap_alloc_new w1 _)).mono ?_
  rintro e w2 ⟨v', rfl, ho, hb4⟩
  go_wp2
  go_ret
  exact ⟨k, v', rfl, HP.out, ho, hb3.trans (((Below.refl _ _).alloc (by omega) _).trans hb4)⟩
end Go.Proofs.Ytkiipmdplpcfeaa
