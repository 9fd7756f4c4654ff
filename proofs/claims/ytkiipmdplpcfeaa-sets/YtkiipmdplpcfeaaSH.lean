/- The contracts of both answers on sets in one form; what Sets keeps of its sets. -/
import Derived.Test.YtkiipmdplpcfeaaSG
import Derived.Test.YtkiipmdplpcfeaaSC
import Derived.Test.YtkiipmdplpcfeaaU
import Derived.WalkKit
import Derived.WalkSpells
import Derived.WalkLawsBesides
namespace Go.Proofs.Ytkiipmdplpcfeaa
open Go.RowKit M
set_option linter.unusedVariables false

/-- What Update answers, as lists and a number. -/
def UpR (sc c : List (Int × Int)) (l : List Sb) (n k : Int) (s : ByteArray) (C : List (Int × Int)) (L : List Sb) (e : Int) : Prop :=
  (¬ UpOK sc c l n k s ∧ C = [] ∧ L = [] ∧ e = 1) ∨
  (UpOK sc c l n k s ∧ 6 < (un c l).length + 1 ∧ C = [] ∧ L = [] ∧ e = 5) ∨
  (UpOK sc c l n k s ∧ (un c l).length + 1 ≤ 6 ∧ 8 < (jn [sc, c, [(n, k)]]).length ∧ C = [] ∧ L = [] ∧ e = 5) ∨
  (UpOK sc c l n k s ∧ (un c l).length + 1 ≤ 6 ∧ (jn [sc, c, [(n, k)]]).length ≤ 8 ∧ ∃ p, Place (un c l) ⟨n, k, s⟩ p ∧ C = jn [sc, c, [(n, k)]] ∧ L = put (un c l) p ⟨n, k, s⟩ ∧ e = 0)
theorem UpR.fn {sc c : List (Int × Int)} {l : List Sb} {n k : Int} {s : ByteArray} {C C' : List (Int × Int)} {L L' : List Sb} {e e' : Int} (h : UpR sc c l n k s C L e) (g : UpR sc c l n k s C' L' e') : C' = C ∧ L' = L ∧ e' = e := by
  rcases h with ⟨h1, rfl, rfl, rfl⟩ | ⟨h1, h2, rfl, rfl, rfl⟩ | ⟨h1, h2, h3, rfl, rfl, rfl⟩ | ⟨h1, h2, h3, p, hp, rfl, rfl, rfl⟩ <;>
    rcases g with ⟨g1, rfl, rfl, rfl⟩ | ⟨g1, g2, rfl, rfl, rfl⟩ | ⟨g1, g2, g3, rfl, rfl, rfl⟩ | ⟨g1, g2, g3, q, hq, rfl, rfl, rfl⟩ <;> first
    | exact ⟨rfl, rfl, rfl⟩
    | exact absurd h1 g1
    | exact absurd g1 h1
    | omega
    | (rw [place_fn (un_pw (UpS.pw h1.1.2.2)) hp hq]; exact ⟨rfl, rfl, rfl⟩)
theorem UpR.len {sc c : List (Int × Int)} {l : List Sb} {n k : Int} {s : ByteArray} {C : List (Int × Int)} {L : List Sb} {e : Int} (h : UpR sc c l n k s C L e) : C.length ≤ 8 ∧ L.length ≤ 6 := by
  rcases h with ⟨h1, rfl, rfl, rfl⟩ | ⟨h1, h2, rfl, rfl, rfl⟩ | ⟨h1, h2, h3, rfl, rfl, rfl⟩ | ⟨h1, h2, h3, p, hp, rfl, rfl, rfl⟩
  · simp
  · simp
  · simp
  · exact ⟨h3, by rw [put_len _ _ _ hp.1]; exact h2⟩
/-- A set is handed back: it is the caller's own. -/
def SetEnd (R : List (Int × Int) → List Sb → Int → Prop) (w : World) (e : Ending) (w' : World) : Prop :=
  ∃ r1 r2 C L c, e = .returned (.tuple #[.agg #[r1, r2], .int .i64 c]) ∧ R C L c ∧ w'.ownsRow w.heap.size 52 2 r1 C.length (cellsE C) ∧ w'.ownsRow w.heap.size 57 3 r2 L.length (cellsS L) ∧ Below w.heap.size w w'
theorem UpdEnd.set {sc c : List (Int × Int)} {l : List Sb} {n k : Int} {s : ByteArray} {w w' : World} {e : Ending} (h : UpdEnd w sc c l n k s e w') : SetEnd (UpR sc c l n k s) w e w' := by
  obtain ⟨hb, h⟩ := h
  rcases h with ⟨h1, he⟩ | ⟨h1, h2, he⟩ | ⟨h1, h2, h3, he⟩ | ⟨h1, h2, h3, p, hp, r1, r2, he, o1, o2⟩
  · exact ⟨_, _, [], [], 1, he, .inl ⟨h1, rfl, rfl, rfl⟩, World.ownsRow_nil _ _ _ _, World.ownsRow_nil _ _ _ _, hb⟩
  · exact ⟨_, _, [], [], 5, he, .inr (.inl ⟨h1, h2, rfl, rfl, rfl⟩), World.ownsRow_nil _ _ _ _, World.ownsRow_nil _ _ _ _, hb⟩
  · exact ⟨_, _, [], [], 5, he, .inr (.inr (.inl ⟨h1, h2, h3, rfl, rfl, rfl⟩)), World.ownsRow_nil _ _ _ _, World.ownsRow_nil _ _ _ _, hb⟩
  · exact ⟨_, _, _, _, 0, he, .inr (.inr (.inr ⟨h1, h2, h3, p, hp, rfl, rfl, rfl⟩)), o1, o2, hb⟩
theorem Update_u (vs v vc : Value) (sc c : List (Int × Int)) (l : List Sb) (n k : Int) (s : ByteArray) (w : World) (hrs : Rd w vs sc) (hrd : RdS w v l) (hrc : Rd w vc c) :
    Calls Try.prog 23 #[.agg #[vs, v], vc, .int .i64 n, .int .i64 k, .string s] w fun e w' => SetEnd (UpR sc c l n k s) w e w' :=
  (Update_any vs v vc sc c l n k s w hrs hrd hrc).mono fun e w' h => h.set
theorem refUpdate_u (vs v vc : Value) (sc c : List (Int × Int)) (l : List Sb) (n k : Int) (s : ByteArray) (w : World) (hrs : Rd w vs sc) (hrd : RdS w v l) (hrc : Rd w vc c) :
    Calls Try.prog 24 #[.agg #[vs, v], vc, .int .i64 n, .int .i64 k, .string s] w fun e w' => SetEnd (UpR sc c l n k s) w e w' :=
  (refUpdate_any vs v vc sc c l n k s w hrs hrd hrc).mono fun e w' h => h.set

/-- What Discard answers. -/
def DsR (sc c : List (Int × Int)) (l : List Sb) (C : List (Int × Int)) (L : List Sb) (e : Int) : Prop :=
  (¬ (SetOK sc l ∧ Clk c) ∧ C = [] ∧ L = [] ∧ e = 1) ∨
  (SetOK sc l ∧ Clk c ∧ 8 < (jn [sc, c]).length ∧ C = [] ∧ L = [] ∧ e = 5) ∨
  (SetOK sc l ∧ Clk c ∧ (jn [sc, c]).length ≤ 8 ∧ C = jn [sc, c] ∧ L = un c l ∧ e = 0)
theorem DsR.fn {sc c : List (Int × Int)} {l : List Sb} {C C' : List (Int × Int)} {L L' : List Sb} {e e' : Int} (h : DsR sc c l C L e) (g : DsR sc c l C' L' e') : C' = C ∧ L' = L ∧ e' = e := by
  rcases h with ⟨h1, rfl, rfl, rfl⟩ | ⟨h1, h2, h3, rfl, rfl, rfl⟩ | ⟨h1, h2, h3, rfl, rfl, rfl⟩ <;>
    rcases g with ⟨g1, rfl, rfl, rfl⟩ | ⟨g1, g2, g3, rfl, rfl, rfl⟩ | ⟨g1, g2, g3, rfl, rfl, rfl⟩ <;> first
    | exact ⟨rfl, rfl, rfl⟩
    | exact absurd (And.intro h1 h2) g1
    | exact absurd (And.intro g1 g2) h1
    | omega
theorem DsR.len {sc c : List (Int × Int)} {l : List Sb} {C : List (Int × Int)} {L : List Sb} {e : Int} (h : DsR sc c l C L e) : C.length ≤ 8 ∧ L.length ≤ 6 := by
  rcases h with ⟨h1, rfl, rfl, rfl⟩ | ⟨h1, h2, h3, rfl, rfl, rfl⟩ | ⟨h1, h2, h3, rfl, rfl, rfl⟩
  · simp
  · simp
  · refine ⟨h3, Nat.le_trans ?_ h1.2.1⟩
    have := un_len c l l.length
    rwa [List.take_length] at this
theorem DisEnd.set {sc c : List (Int × Int)} {l : List Sb} {w w' : World} {e : Ending} (h : DisEnd w sc c l e w') : SetEnd (DsR sc c l) w e w' := by
  obtain ⟨hb, h⟩ := h
  rcases h with ⟨h1, he⟩ | ⟨h1, h2, h3, he⟩ | ⟨h1, h2, h3, r1, r2, he, o1, o2⟩
  · exact ⟨_, _, [], [], 1, he, .inl ⟨h1, rfl, rfl, rfl⟩, World.ownsRow_nil _ _ _ _, World.ownsRow_nil _ _ _ _, hb⟩
  · exact ⟨_, _, [], [], 5, he, .inr (.inl ⟨h1, h2, h3, rfl, rfl, rfl⟩), World.ownsRow_nil _ _ _ _, World.ownsRow_nil _ _ _ _, hb⟩
  · exact ⟨_, _, _, _, 0, he, .inr (.inr ⟨h1, h2, h3, rfl, rfl, rfl⟩), o1, o2, hb⟩
theorem Discard_u (vs v vc : Value) (sc c : List (Int × Int)) (l : List Sb) (w : World) (hrs : Rd w vs sc) (hrd : RdS w v l) (hrc : Rd w vc c) :
    Calls Try.prog 27 #[.agg #[vs, v], vc] w fun e w' => SetEnd (DsR sc c l) w e w' :=
  (Discard_any vs v vc sc c l w hrs hrd hrc).mono fun e w' h => h.set
theorem refDiscard_u (vs v vc : Value) (sc c : List (Int × Int)) (l : List Sb) (w : World) (hrs : Rd w vs sc) (hrd : RdS w v l) (hrc : Rd w vc c) :
    Calls Try.prog 28 #[.agg #[vs, v], vc] w fun e w' => SetEnd (DsR sc c l) w e w' :=
  (refDiscard_any vs v vc sc c l w hrs hrd hrc).mono fun e w' h => h.set

/-- A set that Sets keeps in a place of its own: where its lists lie. -/
structure SetRow (w : World) (g B N : Nat) (r1 r2 : Value) (C : List (Int × Int)) (L : List Sb) : Prop where
  row : w.heap[g]? = some (.cells #[r1, r2] 38 (0, 0))
  o1 : w.ownsRow B 52 2 r1 C.length (cellsE C)
  o2 : w.ownsRow B 57 3 r2 L.length (cellsS L)
  l1 : ∀ q, r1.ownBlock = some q → q < N
  l2 : ∀ q, r2.ownBlock = some q → q < N
  hN : N ≤ g
  hB : B ≤ N
theorem SetRow.below {w w' : World} {g B N : Nat} {r1 r2 : Value} {C : List (Int × Int)} {L : List Sb} (h : SetRow w g B N r1 r2 C L) (hb : Below w.heap.size w w') : SetRow w' g B N r1 r2 C L :=
  ⟨heap_later hb h.row, ownsRow_below h.o1 hb, ownsRow_below h.o2 hb, h.l1, h.l2, h.hN, h.hB⟩
theorem SetRow.only {w w' : World} {g B N : Nat} {r1 r2 : Value} {C : List (Int × Int)} {L : List Sb} {r s : Option Nat} {lo hi : Nat} (h : SetRow w g B N r1 r2 C L) (hg : Only w w' r s) (hr : ∀ q, r = some q → lo ≤ q ∧ q < hi) (hs : ∀ q, s = some q → lo ≤ q ∧ q < hi)
    (hd : hi ≤ B ∨ g < lo) : SetRow w' g B N r1 r2 C L := by
  have hlt := (Array.getElem?_eq_some_iff.1 h.row).1
  have hBg := Nat.le_trans h.hB h.hN
  have hN := h.hN
  have away : ∀ q, B ≤ q → q ≤ g → some q ≠ r ∧ some q ≠ s := by
    intro q h1 h2
    exact ⟨fun e => by have := hr q e.symm; omega, fun e => by have := hs q e.symm; omega⟩
  have kp : ∀ {e : TypeId} {sz n : Nat} {v : Value} {xs : List Value}, w.ownsRow B e sz v n xs → (∀ q, v.ownBlock = some q → q < N) → w'.ownsRow B e sz v n xs := by
    intro e sz n v xs ho hl
    refine Only.kept ho hg ?_ ?_
    · cases hq : v.ownBlock with
      | none => exact .inl rfl
      | some q => exact .inr (away q (ho.lt q hq).1 (by have := hl q hq; omega)).1
    · cases hq : v.ownBlock with
      | none => exact .inl rfl
      | some q => exact .inr (away q (ho.lt q hq).1 (by have := hl q hq; omega)).2
  exact ⟨(hg.block g hlt (away g hBg (Nat.le_refl _)).1 (away g hBg (Nat.le_refl _)).2).trans h.row, kp h.o1 h.l1, kp h.o2 h.l2, h.l1, h.l2, h.hN, h.hB⟩
theorem SetRow.rng {w : World} {g B N : Nat} {r1 r2 : Value} {C : List (Int × Int)} {L : List Sb} (h : SetRow w g B N r1 r2 C L) : (∀ q, r1.ownBlock = some q → B ≤ q ∧ q < N) ∧ (∀ q, r2.ownBlock = some q → B ≤ q ∧ q < N) :=
  ⟨fun q hq => ⟨(h.o1.lt q hq).1, h.l1 q hq⟩, fun q hq => ⟨(h.o2.lt q hq).1, h.l2 q hq⟩⟩
theorem SetRow.rd1 {w : World} {g B N : Nat} {r1 r2 : Value} {C : List (Int × Int)} {L : List Sb} (h : SetRow w g B N r1 r2 C L) : Rd w r1 C := Rd.own h.o1 rfl
theorem SetRow.rd2 {w : World} {g B N : Nat} {r1 r2 : Value} {C : List (Int × Int)} {L : List Sb} (h : SetRow w g B N r1 r2 C L) : RdS w r2 L := RdS.own h.o2 rfl
/-- A set that was handed back is laid into a new place. -/
theorem SetRow.new {w : World} {B : Nat} {r1 r2 : Value} {C : List (Int × Int)} {L : List Sb} (o1 : w.ownsRow B 52 2 r1 C.length (cellsE C)) (o2 : w.ownsRow B 57 3 r2 L.length (cellsS L)) (hB : B ≤ w.heap.size) :
    SetRow (w.alloc (.cells #[r1, r2] 38)) w.heap.size B w.heap.size r1 r2 C L :=
  ⟨heap_alloc_new w _, o1.alloc _, o2.alloc _, fun q hq => (o1.lt q hq).2, fun q hq => (o2.lt q hq).2, Nat.le_refl _, hB⟩
theorem SetRow.c0 {w : World} {g B N : Nat} {r1 r2 : Value} {C : List (Int × Int)} {L : List Sb} (h : SetRow w g B N r1 r2 C L) : w.cell? ⟨g, 0, none⟩ = some r1 := by rw [cell_of_row _ _ _ _ _ _ h.row]; rfl
theorem SetRow.c1 {w : World} {g B N : Nat} {r1 r2 : Value} {C : List (Int × Int)} {L : List Sb} (h : SetRow w g B N r1 r2 C L) : w.cell? ⟨g, 1, none⟩ = some r2 := by rw [cell_of_row _ _ _ _ _ _ h.row]; rfl
/-- The owner of a set writes into it. -/
theorem own_row {W w : World} {g B N : Nat} {r1 r2 : Value} {C : List (Int × Int)} {L : List Sb} (mark : Int) (h : SetRow w g B N r1 r2 C L) (hC : C.length ≤ 8) (hL : L.length ≤ 6) (hW : Below W.heap.size W w) (hWB : W.heap.size ≤ B) (hBw : B ≤ w.heap.size) :
    Calls Try.prog 26 #[.agg #[r1, r2], .int .i64 mark] w fun e w' => e = .returned (.tuple #[]) ∧ SetRow w' g B N r1 r2 (mks mark C.length) (mkS mark L.length) ∧ Only w w' r1.ownBlock r2.ownBlock ∧ Below W.heap.size W w' :=
  (own_any B r1 r2 C L mark w h.o1 h.o2 (by omega) (by omega) hBw).mono fun e w' ⟨he, k1, k2, ho⟩ => by
    have hr := h.rng
    have hlt := (Array.getElem?_eq_some_iff.1 h.row).1
    have hN := h.hN
    refine ⟨he, ⟨(ho.block g hlt (fun e => by have := hr.1 g e.symm; omega) (fun e => by have := hr.2 g e.symm; omega)).trans h.row, by simpa [mks] using k1, by simpa [mkS] using k2, h.l1, h.l2, h.hN, h.hB⟩, ho, ?_⟩
    exact Only.below hW ho hW.size (fun q hq => by have := hr.1 q hq; omega) (fun q hq => by have := hr.2 q hq; omega)
theorem sameSet_yes (v1 v2 u1 u2 : Value) (c : List (Int × Int)) (l : List Sb) (w : World) (h1 : Rd w v1 c) (h2 : RdS w v2 l) (h3 : Rd w u1 c) (h4 : RdS w u2 l) :
    Calls Try.prog 25 #[.agg #[v1, v2], .agg #[u1, u2]] w fun e w' => e = .returned (.bool true) ∧ Below w.heap.size w w' :=
  (sameSet_any v1 v2 u1 u2 c c l l w h1 h2 h3 h4).mono fun e w' ⟨r, he, hr, hb⟩ => ⟨by rw [he, hr.2 ⟨rfl, rfl⟩], hb⟩
end Go.Proofs.Ytkiipmdplpcfeaa
