/- The store as it lies in memory: its block, its sets. Plain facts. -/
import Derived.Test.YtilkdeghknjjhaaGreatDoorPart40
import Derived.Test.YtilkdeghknjjhaaGreatDoorPart39
import Derived.Defers
namespace Go.Proofs.YtilkdeghknjjhaaGreatDoor
open Go.RowKit M Go.Maps
set_option linter.unusedVariables false

/-- A store, plain: what each key has; how many mutations there were, and were held. -/
structure St where
  node : Int
  every : Int
  roll : Int
  M : ByteArray → Se
  cnt : Int
  held : Int
  ro : Bool
/-- A set in memory, in a zone. -/
structure SetIn (Y : Nat → Prop) (w : World) (v : Value) (S : Se) : Prop where
  ex : ∃ vc vl, v = .agg #[vc, vl] ∧ w.ownsRow 0 183 2 vc S.C.length (cellsE S.C) ∧ w.ownsRow 0 122 3 vl S.L.length (cellsS S.L) ∧ InZ Y vc ∧ InZ Y vl
theorem SetIn.sh {Y : Nat → Prop} {w : World} {v : Value} {S : Se} (h : SetIn Y w v S) : SetV v := by
  obtain ⟨vc, vl, rfl, h1, h2, _⟩ := h.ex
  obtain ⟨a, c, rfl⟩ := own_shape h1
  obtain ⟨b, d, rfl⟩ := own_shape h2
  exact ⟨_, _, _, _, _, _, rfl⟩
theorem SetIn.mono {Y X : Nat → Prop} {w : World} {v : Value} {S : Se} (h : SetIn Y w v S) (hs : ∀ k, Y k → X k) : SetIn X w v S := by
  obtain ⟨vc, vl, rfl, h1, h2, h3, h4⟩ := h.ex
  exact ⟨vc, vl, rfl, h1, h2, fun k hk => hs k (h3 k hk), fun k hk => hs k (h4 k hk)⟩
theorem SetIn.tr {Y X : Nat → Prop} {w w' : World} {v : Value} {S : Se} (h : SetIn Y w v S) (t : Tr X w w') (hd : ∀ k, Y k → ¬ X k) : SetIn Y w' v S := by
  obtain ⟨vc, vl, rfl, h1, h2, h3, h4⟩ := h.ex
  exact ⟨vc, vl, rfl, own_tr h1 t (fun k hk => hd k (h3 k hk)), own_tr h2 t (fun k hk => hd k (h4 k hk)), h3, h4⟩
theorem SetIn.below {Y : Nat → Prop} {w w' : World} {v : Value} {S : Se} (h : SetIn Y w v S) (t : Below w.heap.size w w') : SetIn Y w' v S := by
  obtain ⟨vc, vl, rfl, h1, h2, h3, h4⟩ := h.ex
  exact ⟨vc, vl, rfl, own_below h1 t, own_below h2 t, h3, h4⟩
theorem SetIn.nil (Y : Nat → Prop) (w : World) : SetIn Y w zSet Se.nil := ⟨_, _, rfl, World.ownsRow_nil _ _ _ _, World.ownsRow_nil _ _ _ _, fun k hk => by simp [Value.ownBlock] at hk, fun k hk => by simp [Value.ownBlock] at hk⟩
/-- All sets of a store, in its table. -/
structure SetsIn (Y : Nat → Prop) (w : World) (mv : Value) (n : Nat) (M : ByteArray → Se) : Prop where
  ex : ∃ T, TabV w mv n T ∧ ∀ k, (T k = none → M k = Se.nil) ∧ ∀ v, T k = some v → (M k).L ≠ [] ∧ SetIn Y w v (M k)
/-- The store lies at block s. -/
structure StIn (Y : Nat → Prop) (w : World) (s : Nat) (dv jv mv : Value) (n : Nat) (S : St) : Prop where
  lt : ∀ k, Y k → k < w.heap.size
  ys : Y s
  ym : InM Y mv
  hs : w.heap[s]? = some (.cells #[dv, .int .i64 S.node, .int .i64 S.every, .int .i64 S.roll, jv, mv, .int .i64 S.cnt, .int .i64 S.held, .bool S.ro] 86 (0, 0))
  tab : SetsIn Y w mv n S.M
theorem StIn.cell {Y : Nat → Prop} {w : World} {s : Nat} {dv jv mv : Value} {n : Nat} {S : St} (h : StIn Y w s dv jv mv n S) (o : Nat) :
    w.cell? ⟨s, o, none⟩ = #[dv, .int .i64 S.node, .int .i64 S.every, .int .i64 S.roll, jv, mv, .int .i64 S.cnt, .int .i64 S.held, .bool S.ro][o]? := by rw [cell_of_row _ _ _ _ _ _ h.hs]
theorem StIn.frozen {Y : Nat → Prop} {w : World} {s : Nat} {dv jv mv : Value} {n : Nat} {S : St} (h : StIn Y w s dv jv mv n S) (o : Nat) : w.frozen? ⟨s, o, none⟩ = false := frozen_of_row _ _ _ _ _ h.hs
theorem TabV.lt {w : World} {mv : Value} {n : Nat} {T : ByteArray → Option Value} (h : TabV w mv n T) {b : Nat} (hb : mapBlock mv = some b) : b < w.heap.size ∧ ∃ es ck, w.heap[b]? = some (.map es ck) := by
  rcases h with ⟨rfl, _⟩ | ⟨b', D, rfl, h⟩
  · simp [mapBlock] at hb
  · simp [mapBlock] at hb
    subst hb
    obtain ⟨es, ck, h1, _⟩ := h.own
    exact ⟨h.own.lt, es, ck, h1⟩
theorem SetsIn.tr {Y X : Nat → Prop} {w w' : World} {mv : Value} {n : Nat} {M : ByteArray → Se} (h : SetsIn Y w mv n M) (hm : InM Y mv) (t : Tr X w w') (hd : ∀ k, Y k → ¬ X k) : SetsIn Y w' mv n M := by
  obtain ⟨T, h1, h2⟩ := h.ex
  exact ⟨T, h1.tr t (fun k hk => hd k (hm k hk)), fun k => ⟨(h2 k).1, fun v hv => ⟨((h2 k).2 v hv).1, ((h2 k).2 v hv).2.tr t hd⟩⟩⟩
theorem SetsIn.below {Y : Nat → Prop} {w w' : World} {mv : Value} {n : Nat} {M : ByteArray → Se} (h : SetsIn Y w mv n M) (t : Below w.heap.size w w') : SetsIn Y w' mv n M := by
  obtain ⟨T, h1, h2⟩ := h.ex
  exact ⟨T, h1.below t, fun k => ⟨(h2 k).1, fun v hv => ⟨((h2 k).2 v hv).1, ((h2 k).2 v hv).2.below t⟩⟩⟩
theorem SetsIn.mono {Y X : Nat → Prop} {w : World} {mv : Value} {n m : Nat} {M : ByteArray → Se} (h : SetsIn Y w mv n M) (hs : ∀ k, Y k → X k) (hn : n ≤ m) : SetsIn X w mv m M := by
  obtain ⟨T, h1, h2⟩ := h.ex
  exact ⟨T, h1.mono hn, fun k => ⟨(h2 k).1, fun v hv => ⟨((h2 k).2 v hv).1, ((h2 k).2 v hv).2.mono hs⟩⟩⟩
theorem StIn.tr {Y X : Nat → Prop} {w w' : World} {s : Nat} {dv jv mv : Value} {n : Nat} {S : St} (h : StIn Y w s dv jv mv n S) (t : Tr X w w') (hd : ∀ k, Y k → ¬ X k) : StIn Y w' s dv jv mv n S :=
  ⟨fun k hk => Nat.lt_of_lt_of_le (h.lt k hk) t.size, h.ys, h.ym, t.heap h.hs (hd _ h.ys), h.tab.tr h.ym t hd⟩
theorem StIn.below {Y : Nat → Prop} {w w' : World} {s : Nat} {dv jv mv : Value} {n : Nat} {S : St} (h : StIn Y w s dv jv mv n S) (t : Below w.heap.size w w') : StIn Y w' s dv jv mv n S :=
  ⟨fun k hk => Nat.lt_of_lt_of_le (h.lt k hk) t.size, h.ys, h.ym, heap_later t h.hs, h.tab.below t⟩
/-- A zone, and what was made between two sizes. -/
def Yn (Y : Nat → Prop) (n m : Nat) : Nat → Prop := fun k => Y k ∨ (n ≤ k ∧ k < m)
theorem StIn.wide {Y : Nat → Prop} {w : World} {s : Nat} {dv jv mv : Value} {n : Nat} {S : St} (h : StIn Y w s dv jv mv n S) (a : Nat) : StIn (Yn Y a w.heap.size) w s dv jv mv n S :=
  ⟨fun k hk => hk.elim (h.lt k) (fun h => h.2), .inl h.ys, fun k hk => .inl (h.ym k hk), h.hs, h.tab.mono (fun k hk => .inl hk) (Nat.le_refl _)⟩
/-- The set that a key has, as a value. -/
theorem SetsIn.get {Y : Nat → Prop} {w : World} {mv : Value} {n : Nat} {M : ByteArray → Se} (h : SetsIn Y w mv n M) (k : ByteArray) : ∃ T, TabV w mv n T ∧ SetIn Y w (tget T k) (M k) ∧ ((T k).isSome = true ↔ (M k).L ≠ []) := by
  obtain ⟨T, h1, h2⟩ := h.ex
  refine ⟨T, h1, ?_, ?_⟩
  · unfold tget
    cases ht : T k with
    | none => rw [(h2 k).1 ht]; exact SetIn.nil Y w
    | some v => exact ((h2 k).2 v ht).2
  · cases ht : T k with
    | none => rw [(h2 k).1 ht]; simp [Se.nil]
    | some v => simpa using ((h2 k).2 v ht).1
end Go.Proofs.YtilkdeghknjjhaaGreatDoor
/- The store: keep; closed, isKey, within, areOptions. -/
namespace Go.Proofs.YtilkdeghknjjhaaGreatDoor
open Go.RowKit M Go.Maps
set_option linter.unusedVariables false

/-- Blocks that no row of a set lies in. -/
def NoRow (w : World) (X : Nat → Prop) : Prop := ∀ g cs ty, w.heap[g]? = some (.cells cs ty (0, 0)) → ty = 183 ∨ ty = 122 → ¬ X g
theorem own_noRow {w w' : World} {X : Nat → Prop} {B n : Nat} {e : TypeId} {sz : Nat} {v : Value} {xs : List Value} (h : w.ownsRow B e sz v n xs) (he : e = 183 ∨ e = 122) (t : Tr X w w') (hx : NoRow w X) : w'.ownsRow B e sz v n xs := by
  refine ⟨h.1, ?_⟩
  rcases h.2 with hn | ⟨g, cap, cur, rfl, hb, hg, rest⟩
  · exact .inl hn
  · exact .inr ⟨g, cap, cur, rfl, hb, t.heap hg (hx g cur e hg he), rest⟩
theorem SetIn.noRow {Y X : Nat → Prop} {w w' : World} {v : Value} {S : Se} (h : SetIn Y w v S) (t : Tr X w w') (hx : NoRow w X) : SetIn Y w' v S := by
  obtain ⟨vc, vl, rfl, h1, h2, h3, h4⟩ := h.ex
  exact ⟨vc, vl, rfl, own_noRow h1 (.inl rfl) t hx, own_noRow h2 (.inr rfl) t hx, h3, h4⟩
theorem noRow_one {w : World} {s : Nat} {row : Array Value} (hs : w.heap[s]? = some (.cells row 86 (0, 0))) : NoRow w (One s) := by
  rintro g cs ty hg hty (rfl : g = s)
  rw [hs] at hg
  injection hg with hg
  injection hg with _ h2 _
  subst h2
  rcases hty with h | h <;> exact absurd h (by decide)
theorem noRow_map {w : World} {mv : Value} {n : Nat} {T : ByteArray → Option Value} (h : TabV w mv n T) : NoRow w (fun b => mapBlock mv = some b) := by
  intro g cs ty hg hty hb
  obtain ⟨_, es, ck, h2⟩ := h.lt hb
  rw [h2] at hg; cases hg
theorem noRow_or {w : World} {A B : Nat → Prop} (h : NoRow w A) (k : NoRow w B) : NoRow w (fun b => A b ∨ B b) := fun g cs ty hg hty hx => hx.elim (h g cs ty hg hty) (k g cs ty hg hty)
/-- A cell of the store's own block is written. -/
theorem SetsIn.setS {Y : Nat → Prop} {w : World} {s : Nat} {mv : Value} {n : Nat} {M : ByteArray → Se} {row : Array Value} (h : SetsIn Y w mv n M) (hs : w.heap[s]? = some (.cells row 86 (0, 0))) (o : Nat) (u : Value) : SetsIn Y (w.setCell ⟨s, o, none⟩ u) mv n M := by
  obtain ⟨T, h1, h2⟩ := h.ex
  have t : Tr (One s) w (w.setCell ⟨s, o, none⟩ u) := (Tr.refl _ w).set1 o u
  refine ⟨T, h1.tr t (fun b hb (e : b = s) => ?_), fun k => ⟨(h2 k).1, fun v hv => ⟨((h2 k).2 v hv).1, ((h2 k).2 v hv).2.noRow t (noRow_one hs)⟩⟩⟩
  obtain ⟨_, es, ck, h3⟩ := h1.lt hb
  rw [e, hs] at h3; cases h3
theorem StIn.setS {Y : Nat → Prop} {w : World} {s : Nat} {dv jv mv dv' jv' : Value} {n : Nat} {S S' : St} (h : StIn Y w s dv jv mv n S) (o : Nat) (u : Value) (hM : S'.M = S.M)
    (hr : (#[dv, .int .i64 S.node, .int .i64 S.every, .int .i64 S.roll, jv, mv, .int .i64 S.cnt, .int .i64 S.held, .bool S.ro] : Array Value).setIfInBounds o u = #[dv', .int .i64 S'.node, .int .i64 S'.every, .int .i64 S'.roll, jv', mv, .int .i64 S'.cnt, .int .i64 S'.held, .bool S'.ro]) :
    StIn Y (w.setCell ⟨s, o, none⟩ u) s dv' jv' mv n S' :=
  ⟨fun k hk => by have := h.lt k hk; simpa [World.setCell] using this, h.ys, h.ym, by rw [heap_setCell_self h.hs, hr], by rw [hM]; exact h.tab.setS h.hs o u⟩

/-- The rows of sets are as they were. -/
def Rows (w w' : World) : Prop := ∀ (g : Nat) (cs : Array Value) (ty : TypeId), w.heap[g]? = some (.cells cs ty (0, 0)) → ty = 183 ∨ ty = 122 → w'.heap[g]? = some (.cells cs ty (0, 0))
theorem Rows.trans {a b c : World} (h : Rows a b) (k : Rows b c) : Rows a c := fun g cs ty hg hty => k g cs ty (h g cs ty hg hty) hty
theorem rows_tr {w w' : World} {X : Nat → Prop} (t : Tr X w w') (hx : NoRow w X) : Rows w w' := fun g cs ty hg hty => t.heap hg (hx g cs ty hg hty)
theorem rows_below {w w' : World} (hb : Below w.heap.size w w') : Rows w w' := fun g cs ty hg hty => heap_later hb hg
theorem SetIn.rows {Y : Nat → Prop} {w w' : World} {v : Value} {E : Se} (h : SetIn Y w v E) (r : Rows w w') : SetIn Y w' v E := by
  obtain ⟨vc, vl, rfl, h1, h2, h3, h4⟩ := h.ex
  refine ⟨vc, vl, rfl, ⟨h1.1, ?_⟩, ⟨h2.1, ?_⟩, h3, h4⟩
  · rcases h1.2 with hn | ⟨g, cap, cur, rfl, hb, hg, rest⟩
    · exact .inl hn
    · exact .inr ⟨g, cap, cur, rfl, hb, r g cur _ hg (.inl rfl), rest⟩
  · rcases h2.2 with hn | ⟨g, cap, cur, rfl, hb, hg, rest⟩
    · exact .inl hn
    · exact .inr ⟨g, cap, cur, rfl, hb, r g cur _ hg (.inr rfl), rest⟩
/-- What keep makes of the sets. -/
noncomputable def keepM (M : ByteArray → Se) (k : ByteArray) (S : Se) : ByteArray → Se := open Classical in upd M k (if S.L = [] then Se.nil else S)

set_option maxRecDepth 20000 in
set_option maxHeartbeats 1600000 in
theorem keep_all (Y : Nat → Prop) (s : Nat) (dv jv mv : Value) (n : Nat) (S : St) (k : ByteArray) (v : Value) (E : Se) (c : Int) (w : World) (h : StIn Y w s dv jv mv n S) (hk : k.size ≤ maxLen) (hn : n < 1000000000000) (hv : SetIn Y w v E) (hE : E.L.length ≤ 6) :
    Calls Tryz.prog 93 #[.pointer (some ⟨s, 0, none⟩), .string k, v, .int .i64 c] w fun e w' => e = .returned (.tuple #[]) ∧ (∃ mv', StIn (Yn Y w.heap.size w'.heap.size) w' s dv jv mv' (n + 1) { S with M := keepM S.M k E, cnt := c }) ∧ (Tr Y w w' ∧ Rows w w') := by
  obtain ⟨vc, vl, rfl, o1, o2, z1, z2⟩ := hv.ex
  obtain ⟨a1, q1, rfl⟩ := own_shape o1
  obtain ⟨a2, q2, rfl⟩ := own_shape o2
  have hs0 : s < w.heap.size := h.lt s h.ys
  obtain ⟨W, hW, HB, HS, HV⟩ : ∃ W, (w.alloc (.cells #[.slice a1 E.C.length q1, .slice a2 E.L.length q2] 117)) = W ∧ Hid (Below w.heap.size w W) ∧ Hid (StIn Y W s dv jv mv n S) ∧ Hid (SetIn Y W (.agg #[.slice a1 E.C.length q1, .slice a2 E.L.length q2]) E) := by
    have hb : Below w.heap.size w (w.alloc (.cells #[.slice a1 E.C.length q1, .slice a2 E.L.length q2] 117)) := (Below.refl _ _).alloc (Nat.le_refl _) _
    exact ⟨_, rfl, hb, h.below hb, hv.below hb⟩
  have hrow : W.heap[w.heap.size]? = some (.cells #[.slice a1 E.C.length q1, .slice a2 E.L.length q2] 117 (0, 0)) := by rw [← hW]; exact heap_alloc_new w _
  have c6 : W.cell? ⟨s, 6, none⟩ = some (.int .i64 S.cnt) := (HS.out.cell 6).trans rfl
  have fz : ∀ o, W.frozen? ⟨s, o, none⟩ = false := HS.out.frozen
  obtain ⟨W1, hW1, HS1, HV1, HT1, hr1⟩ : ∃ W1, (W.setCell ⟨s, 6, none⟩ (.int .i64 c)) = W1 ∧ Hid (StIn Y W1 s dv jv mv n { S with cnt := c }) ∧ Hid (SetIn Y W1 (.agg #[.slice a1 E.C.length q1, .slice a2 E.L.length q2]) E) ∧ Hid (Tr Y w W1) ∧
      W1.heap[w.heap.size]? = some (.cells #[.slice a1 E.C.length q1, .slice a2 E.L.length q2] 117 (0, 0)) := by
    refine ⟨_, rfl, HS.out.setS 6 _ rfl rfl, HV.out.noRow ((Tr.refl (One s) W).set1 6 _) (noRow_one HS.out.hs), ?_, ?_⟩
    · exact (below_tr HB.out Y).trans ((Tr.refl Y W).setCell (p := ⟨s, 6, none⟩) HS.out.ys _)
    · rw [Below.heap_setCell _ _ _ _ (fun e : w.heap.size = s => by omega)]; exact hrow
  have d0 : W1.cell? ⟨w.heap.size, 0, none⟩ = some (.slice a1 E.C.length q1) := by rw [cell_of_row _ _ _ _ _ _ hr1]; rfl
  have d1 : W1.cell? ⟨w.heap.size, 1, none⟩ = some (.slice a2 E.L.length q2) := by rw [cell_of_row _ _ _ _ _ _ hr1]; rfl
  have l0 : (0 : Int) ≤ (E.L.length : Int) := by omega
  have l1 : (E.L.length : Int) ≤ 6 := by omega
  have hsz1 : w.heap.size ≤ W1.heap.size := HT1.out.size
  have c5 : W1.cell? ⟨s, 5, none⟩ = some mv := (HS1.out.cell 5).trans rfl
  have HRw : Hid (Rows w W1) := (rows_below HB.out).trans (by rw [← hW1]; exact rows_tr ((Tr.refl (One s) W).set1 6 _) (noRow_one HS.out.hs))
  clear hrow h hv o1 o2 z1 z2 HS HV hr1
  obtain ⟨T, hT1, hT2⟩ := HS1.out.tab.ex
  by_cases hl : E.L = []
  · have hlb : ((E.L.length : Int) == 0) = true := by simp [hl]
    have hM : Hid (∀ x, keepM S.M k E x = if x = k then Se.nil else S.M x) := fun x => by unfold keepM upd; rw [if_pos hl]
    have HD : Hid (Calls Tryz.prog 156 #[.pointer (some ⟨s, 5, none⟩), .string k] W1 fun e w' => e = .returned (.tuple #[]) ∧ TabV w' mv n (upd T k none) ∧ Tr (fun b => mapBlock mv = some b) W1 w') := tDelete_any s 5 mv n T k W1 c5 hT1 hk
    have HEnd : Hid (∀ w', TabV w' mv n (upd T k none) → Tr (fun b => mapBlock mv = some b) W1 w' → (∃ mv', StIn (Yn Y w.heap.size w'.heap.size) w' s dv jv mv' (n + 1) { S with M := keepM S.M k E, cnt := c }) ∧ (Tr Y w w' ∧ Rows w w')) := by
      intro w' g1 g2
      refine ⟨⟨mv, fun x hx => ?_, .inl HS1.out.ys, fun x hx => .inl (HS1.out.ym x hx), g2.heap HS1.out.hs (fun hb => ?_), ⟨upd T k none, g1.mono (by omega), fun x => ⟨fun hx => ?_, fun v hx => ?_⟩⟩⟩, ⟨HT1.out.trans (g2.mono fun x _ hx => HS1.out.ym x hx), HRw.out.trans (rows_tr g2 (noRow_map hT1))⟩⟩
      · rcases hx with hx | hx
        · exact Nat.lt_of_lt_of_le (HS1.out.lt x hx) g2.size
        · exact hx.2
      · obtain ⟨_, es, ck, h3⟩ := hT1.lt hb
        rw [HS1.out.hs] at h3; cases h3
      · show keepM S.M k E x = Se.nil
        rw [hM.out x]
        by_cases e : x = k
        · rw [if_pos e]
        · rw [if_neg e]; rw [upd_other _ _ e] at hx; exact (hT2 x).1 hx
      · by_cases e : x = k
        · rw [e, upd_same] at hx; cases hx
        · rw [upd_other _ _ e] at hx
          show (keepM S.M k E x).L ≠ [] ∧ SetIn _ w' v (keepM S.M k E x)
          rw [hM.out x, if_neg e]
          obtain ⟨h5, h6⟩ := (hT2 x).2 v hx
          exact ⟨h5, (h6.noRow g2 (noRow_map hT1)).mono fun q hq => .inl hq⟩
    clear hM hl hT1 hT2 HS1 HV1 HT1 HB
    go_enter Tryz.func93, Tryz.ntmps93
    go_upto_region 1 with (fail)
    clear hW
    go_upto_region 2 with (fail)
    clear hW1
    go_wp2_with fail
    refine HD.out.mono ?_
    rintro e w' ⟨rfl, g1, g2⟩
    obtain ⟨g3, g4⟩ := HEnd.out w' g1 g2
    go_wp2
    refine bodyPost_ret (results_none rfl _ _ _) rfl ?_
    exact ⟨rfl, g3, g4⟩
  · have hlb : ((E.L.length : Int) == 0) = false := by
      have := List.length_pos_iff.2 hl
      simp; omega
    have hM : Hid (∀ x, keepM S.M k E x = if x = k then E else S.M x) := fun x => by unfold keepM upd; rw [if_neg hl]
    have HE : Hid (E.L ≠ []) := hl
    have b0 : Below W1.heap.size W1 W1.drew := Below.drew (Below.refl _ _)
    have HP : Hid (Calls Tryz.prog 149 #[.pointer (some ⟨s, 5, none⟩), .string k, .agg #[.slice a1 E.C.length q1, .slice a2 E.L.length q2]] W1.drew fun e w' => e = .returned (.tuple #[]) ∧ TPutEnd W1.drew s 5 #[dv, .int .i64 S.node, .int .i64 S.every, .int .i64 S.roll, jv, mv, .int .i64 c, .int .i64 S.held, .bool S.ro] 86 mv (n + 1) (upd T k (some (.agg #[.slice a1 E.C.length q1, .slice a2 E.L.length q2]))) w') :=
      tPut_any s 5 _ _ mv n T k _ W1.drew HS1.out.hs rfl (hT1.below b0) hk hn ⟨_, _, _, _, _, _, rfl⟩
    have HEnd : Hid (∀ w', TPutEnd W1.drew s 5 #[dv, .int .i64 S.node, .int .i64 S.every, .int .i64 S.roll, jv, mv, .int .i64 c, .int .i64 S.held, .bool S.ro] 86 mv (n + 1) (upd T k (some (.agg #[.slice a1 E.C.length q1, .slice a2 E.L.length q2]))) w' →
        (∃ mv', StIn (Yn Y w.heap.size w'.heap.size) w' s dv jv mv' (n + 1) { S with M := keepM S.M k E, cnt := c }) ∧ (Tr Y w w' ∧ Rows w w')) := by
      rintro w' ⟨mv', g1, g2, g3, g4⟩
      have g5 : Tr (fun b => b = s ∨ mapBlock mv = some b) W1 w' := ⟨g3.os, g3.tape, g3.output, g3.size, g3.block⟩
      have hnr : NoRow W1 (fun b => b = s ∨ mapBlock mv = some b) := noRow_or (noRow_one HS1.out.hs) (noRow_map hT1)
      have h6 : W1.heap.size ≤ w'.heap.size := g5.size
      refine ⟨⟨mv', fun x hx => ?_, .inl HS1.out.ys, fun x hx => ?_, g1, ⟨upd T k (some (.agg #[.slice a1 E.C.length q1, .slice a2 E.L.length q2])), g2, fun x => ⟨fun hx => ?_, fun v hx => ?_⟩⟩⟩, ⟨HT1.out.trans (g5.mono fun x _ hx => ?_), HRw.out.trans (rows_tr g5 hnr)⟩⟩
      · rcases hx with hx | hx
        · exact Nat.lt_of_lt_of_le (HS1.out.lt x hx) h6
        · exact hx.2
      · rcases g4 with rfl | ⟨b, rfl, g7, g8⟩
        · exact .inl (HS1.out.ym x hx)
        · simp [mapBlock] at hx
          subst hx
          have g9 : W1.heap.size ≤ b := g7
          exact .inr ⟨by omega, g8⟩
      · show keepM S.M k E x = Se.nil
        rw [hM.out x]
        by_cases e : x = k
        · rw [e, upd_same] at hx; cases hx
        · rw [if_neg e]; rw [upd_other _ _ e] at hx; exact (hT2 x).1 hx
      · show (keepM S.M k E x).L ≠ [] ∧ SetIn _ w' v (keepM S.M k E x)
        by_cases e : x = k
        · rw [e, upd_same] at hx
          cases hx
          rw [hM.out x, if_pos e]
          exact ⟨HE.out, (HV1.out.noRow g5 hnr).mono fun q hq => .inl hq⟩
        · rw [upd_other _ _ e] at hx
          rw [hM.out x, if_neg e]
          obtain ⟨h5, h6⟩ := (hT2 x).2 v hx
          exact ⟨h5, (h6.noRow g5 hnr).mono fun q hq => .inl hq⟩
      · rcases hx with rfl | hx
        · exact HS1.out.ys
        · exact HS1.out.ym x hx
    have y0 : W1.drew.cell? ⟨w.heap.size, 0, none⟩ = some (.slice a1 E.C.length q1) := d0
    have y1 : W1.drew.cell? ⟨w.heap.size, 1, none⟩ = some (.slice a2 E.L.length q2) := d1
    clear hM hl hT1 hT2 HS1 HV1 HT1 HB HE
    go_enter Tryz.func93, Tryz.ntmps93
    go_upto_region 1 with (fail)
    clear hW
    go_upto_region 2 with (fail)
    clear hW1
    go_upto_region 4 with (fail)
    go_region_with (first
      | (go_at_call 149; refine HP.out.mono ?_; rintro e w' ⟨rfl, g1⟩))
    all_goals
      obtain ⟨g3, g4⟩ := HEnd.out _ g1
      go_wp2
      go_end0
      exact ⟨rfl, g3, g4⟩
theorem keep_any (Y : Nat → Prop) (s : Nat) (dv jv mv : Value) (n : Nat) (S : St) (k : ByteArray) (v : Value) (E : Se) (c : Int) (w : World) (h : StIn Y w s dv jv mv n S) (hk : k.size ≤ maxLen) (hn : n < 1000000000000) (hv : SetIn Y w v E) (hE : E.L.length ≤ 6) :
    Calls Tryz.prog 93 #[.pointer (some ⟨s, 0, none⟩), .string k, v, .int .i64 c] w fun e w' => e = .returned (.tuple #[]) ∧ (∃ mv', StIn (Yn Y w.heap.size w'.heap.size) w' s dv jv mv' (n + 1) { S with M := keepM S.M k E, cnt := c }) ∧ Tr Y w w' := by
  refine (keep_all Y s dv jv mv n S k v E c w h hk hn hv hE).mono ?_
  rintro e w' ⟨he, h1, h2, _⟩
  exact ⟨he, h1, h2⟩
end Go.Proofs.YtilkdeghknjjhaaGreatDoor
/- The store: outcome. -/
namespace Go.Proofs.YtilkdeghknjjhaaGreatDoor
open Go.RowKit M Go.Maps
set_option linter.unusedVariables false

/-- The set that a mutation gives to its key, and what is answered. -/
noncomputable def outF (E : Se) (m : Mt) : List (Int × Int) × List Sb × Int := if m.del = true then disF E.C m.c E.L else updF E.C m.c E.L m.node m.count m.v
theorem result_out (tmps : Array Value) (w : World) (g : Nat) (v1 v2 : Value) (n : Int) (h4 : tmps.getD 4 undef = .pointer (some ⟨g, 0, none⟩)) (h5 : tmps.getD 5 undef = .int .i64 n) (hg : w.heap[g]? = some (.cells #[v1, v2] 117 (0, 0))) :
    (results Tryz.f91 tmps).run Tryz.prog w = .ok (.tuple #[.agg #[v1, v2], .int .i64 n]) w := by
  have hl := run_loadVar_row (P := Tryz.prog) w g 117 117 #[v1, v2] (0, 0) _ hg Tryz.underlying117 rfl info38
  have h4' : tmps[4]?.getD undef = .pointer (some ⟨g, 0, none⟩) := by simpa using h4
  have h5' : tmps[5]?.getD undef = .int .i64 n := by simpa using h5
  simp [results, Tryz.results91, h4', h5', asAddr, hl]

theorem row_c0 {X : World} {g : Nat} {a b : Value} {t : TypeId} (h : X.heap[g]? = some (.cells #[a, b] t (0, 0))) : X.cell? ⟨g, 0, none⟩ = some a := by rw [cell_of_row _ _ _ _ _ _ h]; rfl
theorem row_c1 {X : World} {g : Nat} {a b : Value} {t : TypeId} (h : X.heap[g]? = some (.cells #[a, b] t (0, 0))) : X.cell? ⟨g, 1, none⟩ = some b := by rw [cell_of_row _ _ _ _ _ _ h]; rfl
theorem row_fz {X : World} {g : Nat} {a b : Value} {t : TypeId} (h : X.heap[g]? = some (.cells #[a, b] t (0, 0))) (o : Nat) : X.frozen? ⟨g, o, none⟩ = false := frozen_of_row _ _ _ _ _ h
set_option maxRecDepth 20000 in
set_option maxHeartbeats 3200000 in
theorem outcome_any (Y : Nat → Prop) (s : Nat) (dv jv mv : Value) (n : Nat) (S : St) (m : Mt) (vc : Value) (w : World) (h : StIn Y w s dv jv mv n S) (hrd : Rd w vc m.c) (hk : m.k.size ≤ maxLen) :
    Calls Tryz.prog 91 #[.pointer (some ⟨s, 0, none⟩), mtV m vc] w fun e w' => SetF (outF (S.M m.k) m) w e w' := by
  obtain ⟨del, node, count, k, c, v⟩ := m
  simp only at hrd hk
  obtain ⟨av, lv, cv, rfl⟩ : ∃ a l cap, vc = .slice a l cap := by obtain ⟨a, cap, h, _⟩ := hrd; exact ⟨_, _, _, h⟩
  obtain ⟨E, hE⟩ : ∃ E, S.M k = E := ⟨_, rfl⟩
  obtain ⟨T, hT, hSet, _⟩ := h.tab.get k
  rw [hE] at hSet ⊢
  obtain ⟨uc, ul, hu, o1, o2, _, _⟩ := hSet.ex
  obtain ⟨a1, q1, rfl⟩ := own_shape o1
  obtain ⟨a2, q2, rfl⟩ := own_shape o2
  have c5 : w.cell? ⟨s, 5, none⟩ = some mv := (h.cell 5).trans rfl
  have HG : Hid (∀ X, Below w.heap.size w X → Calls Tryz.prog 55 #[.pointer (some ⟨s, 5, none⟩), .string k] X fun e w' => (∃ b, e = .returned (.tuple #[.agg #[.slice a1 E.C.length q1, .slice a2 E.L.length q2], .bool b])) ∧ Below X.heap.size X w') := fun X hX => by
    have := tGet_any s 5 mv n T k X (cell_later hX c5) (hT.below hX) hk
    rw [hu] at this
    exact this.mono fun e w' ⟨he, hb⟩ => ⟨⟨_, he⟩, hb⟩
  have HD : Hid (∀ X, Below w.heap.size w X → Calls Tryz.prog 154 #[.agg #[.slice a1 E.C.length q1, .slice a2 E.L.length q2], .slice av lv cv] X fun e w' => SetF (disF E.C c E.L) X e w') := fun X hX =>
    (Discard_u _ _ _ _ _ _ X ((Rd.own o1 rfl).below hX) ((RdS.own o2 rfl).below hX) (hrd.below hX)).mono fun e w' hh => hh.dis
  have HU : Hid (∀ X, Below w.heap.size w X → Calls Tryz.prog 155 #[.agg #[.slice a1 E.C.length q1, .slice a2 E.L.length q2], .slice av lv cv, .int .i64 node, .int .i64 count, .string v] X fun e w' => SetF (updF E.C c E.L node count v) X e w') := fun X hX =>
    (Update_u _ _ _ _ _ _ _ _ _ X ((Rd.own o1 rfl).below hX) ((RdS.own o2 rfl).below hX) (hrd.below hX)).mono fun e w' hh => hh.upd
  clear hE hT hSet o1 o2 hu h hrd c5
  obtain ⟨W, hW, HB, HR, HM⟩ : ∃ W, ((w.alloc (.cells #[.bool del, .int .i64 node, .int .i64 count, .string k, .slice av lv cv, .string v] 111)).alloc (.cells #[.slice none 0 0, .slice none 0 0] 117)) = W ∧ Hid (Below w.heap.size w W) ∧ Hid (W.heap[w.heap.size + 1]? = some (.cells nilSet 117 (0, 0))) ∧
      Hid (W.heap[w.heap.size]? = some (.cells #[.bool del, .int .i64 node, .int .i64 count, .string k, .slice av lv cv, .string v] 111 (0, 0))) :=
    ⟨_, rfl, ((Below.refl _ _).alloc (Nat.le_refl _) _).alloc (by simp) _, heap_alloc2_new w _ _, (Below.heap_alloc _ _ _ (by simp)).trans (heap_alloc_new w _)⟩
  have hcell : ∀ X, Below W.heap.size W X → ∀ o, X.cell? ⟨w.heap.size, o, none⟩ = #[Value.bool del, .int .i64 node, .int .i64 count, .string k, .slice av lv cv, .string v][o]? := fun X hX o => by rw [cell_of_row _ _ _ _ _ _ (heap_later hX HM.out)]
  have x3 : W.cell? ⟨w.heap.size, 3, none⟩ = some (.string k) := (hcell W (Below.refl _ _) 3).trans rfl
  have HC : Hid (∀ X, Below W.heap.size W X → X.cell? ⟨w.heap.size, 0, none⟩ = some (.bool del) ∧ X.cell? ⟨w.heap.size, 1, none⟩ = some (.int .i64 node) ∧ X.cell? ⟨w.heap.size, 2, none⟩ = some (.int .i64 count) ∧ X.cell? ⟨w.heap.size, 4, none⟩ = some (.slice av lv cv) ∧ X.cell? ⟨w.heap.size, 5, none⟩ = some (.string v)) := fun X hX =>
    ⟨(hcell X hX 0).trans rfl, (hcell X hX 1).trans rfl, (hcell X hX 2).trans rfl, (hcell X hX 4).trans rfl, (hcell X hX 5).trans rfl⟩
  clear hcell
  have hw0 : Below W.heap.size W W := Below.refl _ _
  have hWs : w.heap.size + 2 ≤ W.heap.size := by rw [← hW]; simp
  have hne1 : w.heap.size ≠ W.heap.size := by omega
  have hne2 : W.heap.size ≠ w.heap.size := by omega
  unfold mtV
  simp only
  go_enter Tryz.func91, Tryz.ntmps91
  go_upto_region 1 with (fail)
  clear hW
  go_cut [6] from 6 to 16 (fun v6 wx => ∃ g, v6 = .pointer (some ⟨g, 0, none⟩) ∧ wx.heap[g]? = some (.cells #[.slice a1 E.C.length q1, .slice a2 E.L.length q2] 117 (0, 0)) ∧ Below W.heap.size W wx)
  case first =>
    go_region_held3 (fun w' => w'.cell? ⟨w.heap.size, 3, none⟩ = some (.string k))
      (first | exact x3 | go_keep)
      (first
        | ((go_at_call 55; refine (HG.out _ (by refine belowN HB.out ?_; repeat (first | assumption | exact Below.refl _ _ | refine Below.drew ?_ | refine belowA ?_))).mono ?_; rintro e w1 ⟨⟨b, rfl⟩, hb1⟩; have z3 : w1.cell? ⟨w.heap.size, 3, none⟩ = some (.string k) := cell_later (belowN (a := W) (by repeat (first | assumption | exact Below.refl _ _ | refine Below.drew ?_ | refine belowA ?_)) hb1) x3; (first | (have r1 := rowD hb1; have r2 := row_c0 r1; have r3 := row_c1 r1; have r4 := row_fz r1) | skip))))
    · go_wp2_with fail
      go_meet
      exact ⟨w1.heap.size, rfl, heap_alloc_new w1 _, belowA (belowN (Below.drew hw0) hb1)⟩
    · go_wp2_with fail
      go_meet
      exact ⟨W.heap.size, rfl, by rw [heap_setCell_self (heap_setCell_self r1 0 _) 1 _]; rfl, ((belowN (Below.drew (belowA hw0)) hb1).setCell (Nat.le_refl _) _).setCell (Nat.le_refl _) _⟩
  case rest =>
    obtain ⟨g, rfl, hg, hbx⟩ := hcut
    obtain ⟨y0, y1, y2, y4, y5⟩ := HC.out wc hbx
    have g0 := row_c0 hg
    have g1 := row_c1 hg
    have HX : Hid (Below w.heap.size w wc) := belowN HB.out hbx
    have HR1 : Hid (wc.heap[w.heap.size + 1]? = some (.cells nilSet 117 (0, 0))) := heap_later hbx HR.out
    clear hbx hg HC HG hw0 x3 HB HR HM hWs hne1 hne2
    cases del
    · have HO : Hid (outF E ⟨false, node, count, k, c, v⟩ = updF E.C c E.L node count v) := rfl
      clear HD
      go_wp2_with fail
      refine (HU.out wc HX.out).mono ?_
      rintro e w2 ⟨r1, r2, rfl, o1, o2, hb2, l1, l2⟩
      obtain ⟨b1, p1, rfl⟩ := own_shape o1
      obtain ⟨b2, p2, rfl⟩ := own_shape o2
      have HR2 : Hid (w2.heap[w.heap.size + 1]? = some (.cells nilSet 117 (0, 0))) := heap_later hb2 HR1.out
      have HQ : Hid (∀ w3, w3 = w2.setRow (w.heap.size + 1) #[.slice b1 (updF E.C c E.L node count v).1.length p1, .slice b2 (updF E.C c E.L node count v).2.1.length p2] → SetF (outF E ⟨false, node, count, k, c, v⟩) w (.returned (.tuple #[.agg #[.slice b1 (updF E.C c E.L node count v).1.length p1, .slice b2 (updF E.C c E.L node count v).2.1.length p2], .int .i64 (updF E.C c E.L node count v).2.2])) w3) := by
        rintro w3 rfl
        rw [HO.out]
        exact ⟨_, _, rfl, own_setRow (own_base o1 HX.out.size) HR2.out (by decide), own_setRow (own_base o2 HX.out.size) HR2.out (by decide), below_setRow (belowN HX.out hb2) (by omega) _, l1, l2⟩
      obtain ⟨N1, hN1⟩ : ∃ q, (updF E.C c E.L node count v).1.length = q := ⟨_, rfl⟩
      obtain ⟨N2, hN2⟩ : ∃ q, (updF E.C c E.L node count v).2.1.length = q := ⟨_, rfl⟩
      obtain ⟨N3, hN3⟩ : ∃ q, (updF E.C c E.L node count v).2.2 = q := ⟨_, rfl⟩
      rw [hN1, hN2, hN3] at HQ
      rw [hN1, hN2, hN3]
      clear hN1 hN2 hN3 o1 o2 l1 l2 hb2 y0 y1 y2 y4 y5 g0 g1 HU
      go_wp2_with (first
        | (refine wpList_store_row rfl 117 _ _ rfl (w.heap.size + 1) #[.slice b1 N1 p1, .slice b2 N2 p2] rfl rfl 117 nilSet HR2.out info38 rfl (one_two _ _ _ _ _ _) ?_))
      exact bodyPost_ret (result_out _ _ (w.heap.size + 1) _ _ N3 rfl rfl (setRow_heap _ _ _ _ _ _ HR2.out)) rfl (HQ.out _ rfl)
    · have HO : Hid (outF E ⟨true, node, count, k, c, v⟩ = disF E.C c E.L) := rfl
      clear HU
      go_wp2_with fail
      refine (HD.out wc HX.out).mono ?_
      rintro e w2 ⟨r1, r2, rfl, o1, o2, hb2, l1, l2⟩
      obtain ⟨b1, p1, rfl⟩ := own_shape o1
      obtain ⟨b2, p2, rfl⟩ := own_shape o2
      have HR2 : Hid (w2.heap[w.heap.size + 1]? = some (.cells nilSet 117 (0, 0))) := heap_later hb2 HR1.out
      have HQ : Hid (∀ w3, w3 = w2.setRow (w.heap.size + 1) #[.slice b1 (disF E.C c E.L).1.length p1, .slice b2 (disF E.C c E.L).2.1.length p2] → SetF (outF E ⟨true, node, count, k, c, v⟩) w (.returned (.tuple #[.agg #[.slice b1 (disF E.C c E.L).1.length p1, .slice b2 (disF E.C c E.L).2.1.length p2], .int .i64 (disF E.C c E.L).2.2])) w3) := by
        rintro w3 rfl
        rw [HO.out]
        exact ⟨_, _, rfl, own_setRow (own_base o1 HX.out.size) HR2.out (by decide), own_setRow (own_base o2 HX.out.size) HR2.out (by decide), below_setRow (belowN HX.out hb2) (by omega) _, l1, l2⟩
      obtain ⟨N1, hN1⟩ : ∃ q, (disF E.C c E.L).1.length = q := ⟨_, rfl⟩
      obtain ⟨N2, hN2⟩ : ∃ q, (disF E.C c E.L).2.1.length = q := ⟨_, rfl⟩
      obtain ⟨N3, hN3⟩ : ∃ q, (disF E.C c E.L).2.2 = q := ⟨_, rfl⟩
      rw [hN1, hN2, hN3] at HQ
      rw [hN1, hN2, hN3]
      clear hN1 hN2 hN3 o1 o2 l1 l2 hb2 y0 y1 y2 y4 y5 g0 g1 HD
      go_wp2_with (first
        | (refine wpList_store_row rfl 117 _ _ rfl (w.heap.size + 1) #[.slice b1 N1 p1, .slice b2 N2 p2] rfl rfl 117 nilSet HR2.out info38 rfl (one_two _ _ _ _ _ _) ?_))
      exact bodyPost_ret (result_out _ _ (w.heap.size + 1) _ _ N3 rfl rfl (setRow_heap _ _ _ _ _ _ HR2.out)) rfl (HQ.out _ rfl)
end Go.Proofs.YtilkdeghknjjhaaGreatDoor
/- The store: closed, isKey, within, areOptions; redo. -/
namespace Go.Proofs.YtilkdeghknjjhaaGreatDoor
open Go.RowKit M Go.Maps
set_option linter.unusedVariables false

set_option maxHeartbeats 400000 in
theorem isKey_any (k : ByteArray) (w : World) : Calls Tryz.prog 53 #[.string k] w fun e w' => e = .returned (.bool (keyOK k)) ∧ w' = w := by
  by_cases h1 : 1 ≤ (k.size : Int)
  · by_cases h2 : (k.size : Int) ≤ 40
    · have HE : Hid (keyOK k = true) := by show _ = _; unfold keyOK; simp; omega
      go_enter Tryz.func53, Tryz.ntmps53
      go_wp2
      go_ret
      exact ⟨by rw [HE.out]; rfl, rfl⟩
    · have HE : Hid (keyOK k = false) := by show _ = _; unfold keyOK; simp; omega
      go_enter Tryz.func53, Tryz.ntmps53
      go_wp2
      go_ret
      exact ⟨by rw [HE.out]; rfl, rfl⟩
  · have HE : Hid (keyOK k = false) := by show _ = _; unfold keyOK; simp; omega
    go_enter Tryz.func53, Tryz.ntmps53
    go_wp2
    go_ret
    exact ⟨by rw [HE.out]; rfl, rfl⟩
set_option maxHeartbeats 400000 in
theorem within_any (n a b : Int) (w : World) : Calls Tryz.prog 144 #[.int .i64 n, .int .i64 a, .int .i64 b] w fun e w' => e = .returned (.bool (decide (a ≤ n) && decide (n ≤ b))) ∧ w' = w := by
  obtain ⟨q, hq⟩ : ∃ q, (decide (a ≤ n) && decide (n ≤ b)) = q := ⟨_, rfl⟩
  rw [hq]
  by_cases h1 : a ≤ n
  · by_cases h2 : n ≤ b
    · have HE : Hid (q = true) := by show _ = _; rw [← hq]; simp [h1, h2]
      clear hq
      go_enter Tryz.func144, Tryz.ntmps144
      go_wp2
      go_ret
      exact ⟨by rw [HE.out]; rfl, rfl⟩
    · have HE : Hid (q = false) := by show _ = _; rw [← hq]; simp [h2]
      clear hq
      go_enter Tryz.func144, Tryz.ntmps144
      go_wp2
      go_ret
      exact ⟨by rw [HE.out]; rfl, rfl⟩
  · have HE : Hid (q = false) := by show _ = _; rw [← hq]; simp [h1]
    clear hq
    go_enter Tryz.func144, Tryz.ntmps144
    go_wp2
    go_ret
    exact ⟨by rw [HE.out]; rfl, rfl⟩
/-- May the options be? -/
def optOK (n e r : Int) : Bool := (decide (0 ≤ n) && decide (n ≤ 15)) && (decide (0 ≤ e) && decide (e ≤ 100)) && (decide (400 ≤ r) && decide (r ≤ 100000))
set_option maxRecDepth 20000 in
set_option maxHeartbeats 800000 in
theorem areOptions_any (n e r : Int) (w : World) : Calls Tryz.prog 84 #[.agg #[.int .i64 n, .int .i64 e, .int .i64 r]] w fun en w' => en = .returned (.bool (optOK n e r)) ∧ Below w.heap.size w w' := by
  obtain ⟨W, hW, hb, c0, c1, c2⟩ : ∃ W, w.alloc (.cells #[.int .i64 n, .int .i64 e, .int .i64 r] 23) = W ∧ Below w.heap.size w W ∧ W.cell? ⟨w.heap.size, 0, none⟩ = some (.int .i64 n) ∧ W.cell? ⟨w.heap.size, 1, none⟩ = some (.int .i64 e) ∧ W.cell? ⟨w.heap.size, 2, none⟩ = some (.int .i64 r) :=
    ⟨_, rfl, (Below.refl _ _).alloc (Nat.le_refl _) _, by simp [go_sem], by simp [go_sem], by simp [go_sem]⟩
  have H0 := within_any n 0 15 W
  have H1 := within_any e 0 100 W
  have H2 := within_any r 400 100000 W
  have HO : Hid (optOK n e r = ((decide (0 ≤ n) && decide (n ≤ 15)) && (decide (0 ≤ e) && decide (e ≤ 100)) && (decide (400 ≤ r) && decide (r ≤ 100000)))) := rfl
  obtain ⟨a, ha⟩ : ∃ a, (decide (0 ≤ n) && decide (n ≤ 15)) = a := ⟨_, rfl⟩
  obtain ⟨b, hbb⟩ : ∃ a, (decide (0 ≤ e) && decide (e ≤ 100)) = a := ⟨_, rfl⟩
  obtain ⟨c, hc⟩ : ∃ a, (decide (400 ≤ r) && decide (r ≤ 100000)) = a := ⟨_, rfl⟩
  rw [ha] at H0 HO
  rw [hbb] at H1 HO
  rw [hc] at H2 HO
  clear ha hbb hc
  go_enter Tryz.func84, Tryz.ntmps84
  go_wp2_with fail
  clear hW
  refine H0.mono ?_
  rintro en w1 ⟨rfl, rfl⟩
  cases a
  · have HE : Hid (optOK n e r = false) := by show _ = _; rw [HO.out]; simp
    clear HO
    go_wp2
    go_ret
    exact ⟨by rw [HE.out]; rfl, hb⟩
  · go_wp2_with fail
    refine H1.mono ?_
    rintro en w2 ⟨rfl, rfl⟩
    cases b
    · have HE : Hid (optOK n e r = false) := by show _ = _; rw [HO.out]; simp
      clear HO
      go_wp2
      go_ret
      exact ⟨by rw [HE.out]; rfl, hb⟩
    · go_wp2_with fail
      refine H2.mono ?_
      rintro en w3 ⟨rfl, rfl⟩
      have HE : Hid (optOK n e r = c) := by show _ = _; rw [HO.out]; simp
      clear HO
      go_wp2
      go_ret
      exact ⟨by rw [HE.out]; rfl, hb⟩

set_option maxHeartbeats 400000 in
theorem closed_no (Y : Nat → Prop) (s j : Nat) (dv mv : Value) (n : Nat) (S : St) (w : World) (h : StIn Y w s dv (.pointer (some ⟨j, 0, none⟩)) mv n S) :
    Calls Tryz.prog 39 #[.pointer (some ⟨s, 0, none⟩)] w fun e w' => e = .returned (.bool false) ∧ w' = w := by
  have c4 : w.cell? ⟨s, 4, none⟩ = some (.pointer (some ⟨j, 0, none⟩)) := (h.cell 4).trans rfl
  clear h
  go_enter Tryz.func39, Tryz.ntmps39
  go_wp2
  go_ret
  exact ⟨rfl, rfl⟩
set_option maxHeartbeats 400000 in
theorem closed_yes (Y : Nat → Prop) (s : Nat) (dv mv : Value) (n : Nat) (S : St) (w : World) (h : StIn Y w s dv (.pointer none) mv n S) :
    Calls Tryz.prog 39 #[.pointer (some ⟨s, 0, none⟩)] w fun e w' => e = .returned (.bool true) ∧ w' = w := by
  have c4 : w.cell? ⟨s, 4, none⟩ = some (.pointer none) := (h.cell 4).trans rfl
  clear h
  go_enter Tryz.func39, Tryz.ntmps39
  go_wp2
  go_ret
  exact ⟨rfl, rfl⟩

theorem Tr.trans' {Y X : Nat → Prop} {a b c : World} (h : Tr Y a b) (k : Tr X b c) (hx : ∀ i, i < a.heap.size → X i → Y i) : Tr Y a c :=
  ⟨k.os.trans h.os, k.tape.trans h.tape, k.output.trans h.output, Nat.le_trans h.size k.size, fun i hi hz => (k.block i (Nat.lt_of_lt_of_le hi h.size) (fun hh => hz (hx i hi hh))).trans (h.block i hi hz)⟩
/-- What redo does. -/
noncomputable def redoF (S : St) (m : Mt) : Bool × St := open Classical in
  if m.count = S.cnt + 1 ∧ keyOK m.k = true ∧ (outF (S.M m.k) m).2.2 = 0 then (true, { S with M := keepM S.M m.k ⟨(outF (S.M m.k) m).1, (outF (S.M m.k) m).2.1⟩, cnt := m.count }) else (false, S)
theorem StIn.zone {Y X : Nat → Prop} {w : World} {s : Nat} {dv jv mv : Value} {n : Nat} {S : St} (h : StIn Y w s dv jv mv n S) (h1 : ∀ k, Y k → X k) (h2 : ∀ k, X k → k < w.heap.size) : StIn X w s dv jv mv n S :=
  ⟨h2, h1 _ h.ys, fun k hk => h1 _ (h.ym k hk), h.hs, h.tab.mono h1 (Nat.le_refl _)⟩
theorem SetF.set {q : List (Int × Int) × List Sb × Int} {w : World} {e : Ending} {w' : World} (Y : Nat → Prop) (h : SetF q w e w') : ∃ a1 l1 c1 a2 l2 c2, e = .returned (.tuple #[.agg #[.slice a1 l1 c1, .slice a2 l2 c2], .int .i64 q.2.2]) ∧ SetIn (Yn Y w.heap.size w'.heap.size) w' (.agg #[.slice a1 l1 c1, .slice a2 l2 c2]) ⟨q.1, q.2.1⟩ ∧ Below w.heap.size w w' ∧ q.2.1.length ≤ 6 := by
  obtain ⟨r1, r2, rfl, o1, o2, hb, _, l2⟩ := h
  obtain ⟨a1, c1, rfl⟩ := own_shape o1
  obtain ⟨a2, c2, rfl⟩ := own_shape o2
  exact ⟨_, _, _, _, _, _, rfl, ⟨_, _, rfl, own_base o1 (Nat.zero_le _), own_base o2 (Nat.zero_le _), fun k hk => .inr (o1.lt k hk), fun k hk => .inr (o2.lt k hk)⟩, hb, l2⟩
theorem tr_below {Y : Nat → Prop} {w w' : World} (h : Below w.heap.size w w') : Tr Y w w' := below_tr h Y
set_option maxRecDepth 20000 in
set_option maxHeartbeats 1600000 in
theorem redo_any (Y : Nat → Prop) (s : Nat) (dv jv mv : Value) (n : Nat) (S : St) (m : Mt) (vc : Value) (w : World) (h : StIn Y w s dv jv mv n S) (hrd : Rd w vc m.c) (hk : m.k.size ≤ 1000000) (hn : n < 1000000000000) (hc0 : 0 ≤ S.cnt) (hc1 : S.cnt ≤ 4611686018427387904) :
    Calls Tryz.prog 86 #[.pointer (some ⟨s, 0, none⟩), mtV m vc] w fun e w' => e = .returned (.bool (redoF S m).1) ∧ (∃ mv', StIn (Yn Y w.heap.size w'.heap.size) w' s dv jv mv' (n + 1) (redoF S m).2) ∧ Tr Y w w' := by
  obtain ⟨del, node, count, k, c, v⟩ := m
  simp only at hrd hk
  obtain ⟨av, lv, cv, rfl⟩ : ∃ a l cap, vc = .slice a l cap := by obtain ⟨a, cap, h, _⟩ := hrd; exact ⟨_, _, _, h⟩
  obtain ⟨W, hW, HB, HM⟩ : ∃ W, (w.alloc (.cells #[.bool del, .int .i64 node, .int .i64 count, .string k, .slice av lv cv, .string v] 111)) = W ∧ Hid (Below w.heap.size w W) ∧
      Hid (W.heap[w.heap.size]? = some (.cells #[.bool del, .int .i64 node, .int .i64 count, .string k, .slice av lv cv, .string v] 111 (0, 0))) := ⟨_, rfl, (Below.refl _ _).alloc (Nat.le_refl _) _, heap_alloc_new w _⟩
  have HS : Hid (StIn Y W s dv jv mv n S) := h.below HB.out
  have c6 : W.cell? ⟨s, 6, none⟩ = some (.int .i64 S.cnt) := (HS.out.cell 6).trans rfl
  have HC : Hid (∀ X, Below W.heap.size W X → X.cell? ⟨w.heap.size, 0, none⟩ = some (.bool del) ∧ X.cell? ⟨w.heap.size, 1, none⟩ = some (.int .i64 node) ∧ X.cell? ⟨w.heap.size, 2, none⟩ = some (.int .i64 count) ∧ X.cell? ⟨w.heap.size, 3, none⟩ = some (.string k) ∧ X.cell? ⟨w.heap.size, 4, none⟩ = some (.slice av lv cv) ∧ X.cell? ⟨w.heap.size, 5, none⟩ = some (.string v)) := fun X hX => by
    have hcell : ∀ o, X.cell? ⟨w.heap.size, o, none⟩ = #[Value.bool del, .int .i64 node, .int .i64 count, .string k, .slice av lv cv, .string v][o]? := fun o => by rw [cell_of_row _ _ _ _ _ _ (heap_later hX HM.out)]
    exact ⟨(hcell 0).trans rfl, (hcell 1).trans rfl, (hcell 2).trans rfl, (hcell 3).trans rfl, (hcell 4).trans rfl, (hcell 5).trans rfl⟩
  have HK : Hid (∀ X, Calls Tryz.prog 53 #[.string k] X fun e w' => e = .returned (.bool (keyOK k)) ∧ w' = X) := fun X => isKey_any k X
  have HO : Hid (∀ X, Below W.heap.size W X → Calls Tryz.prog 91 #[.pointer (some ⟨s, 0, none⟩), .agg #[.bool del, .int .i64 node, .int .i64 count, .string k, .slice av lv cv, .string v]] X fun e w' => SetF (outF (S.M k) ⟨del, node, count, k, c, v⟩) X e w') :=
    fun X hX => outcome_any Y s dv jv mv n S ⟨del, node, count, k, c, v⟩ (.slice av lv cv) X (HS.out.below hX) ((hrd.below HB.out).below hX) (by show k.size ≤ maxLen; unfold maxLen; omega)
  obtain ⟨q, hq⟩ : ∃ q, outF (S.M k) ⟨del, node, count, k, c, v⟩ = q := ⟨_, rfl⟩
  have HR : Hid (redoF S ⟨del, node, count, k, c, v⟩ = if count = S.cnt + 1 ∧ keyOK k = true ∧ q.2.2 = 0 then (true, { S with M := keepM S.M k ⟨q.1, q.2.1⟩, cnt := count }) else (false, S)) := by
    show _ = _
    unfold redoF
    simp only [hq]
  rw [hq] at HO
  obtain ⟨R, hR⟩ : ∃ R, redoF S ⟨del, node, count, k, c, v⟩ = R := ⟨_, rfl⟩
  rw [hR] at HR ⊢
  have hcw : IntKind.i64.wrap (S.cnt + 1) = S.cnt + 1 := wrap_in _ (by omega) (by omega)
  have hw0 : Below W.heap.size W W := Below.refl _ _
  obtain ⟨x0, x1, x2, x3, x4, x5⟩ := HC.out W hw0
  have HNo : Hid (∀ w', R = (false, S) → Below W.heap.size W w' → (∃ mv', StIn (Yn Y w.heap.size w'.heap.size) w' s dv jv mv' (n + 1) R.2) ∧ Tr Y w w') := by
    intro w' hr hb
    refine ⟨⟨mv, ?_⟩, below_tr (belowN HB.out hb) Y⟩
    rw [hr]
    have h2 := (HS.out.below hb).wide w.heap.size
    exact ⟨h2.lt, h2.ys, h2.ym, h2.hs, h2.tab.mono (fun _ hk => hk) (Nat.le_succ _)⟩
  clear hq hR hrd h
  unfold mtV
  simp only
  by_cases g1 : count = S.cnt + 1
  · have g1b : (count != S.cnt + 1) = false := by simp [g1]
    cases g2 : keyOK k
    · have HF : Hid (R = (false, S)) := by show _ = _; rw [HR.out, if_neg (by rw [g2]; simp)]
      rw [g2] at HK
      clear HR HO g1 g2
      go_enter Tryz.func86, Tryz.ntmps86
      go_upto_region 1 with (fail)
      clear hW
      go_quiet ((go_at_call 53; refine Calls.quiet_of_same (HK.out _)))
      go_wp2
      go_ret
      obtain ⟨p1, p2⟩ := HNo.out _ HF.out (below_drewN hw0 _)
      exact ⟨by rw [HF.out]; rfl, p1, p2⟩
    · rw [g2] at HK
      by_cases g3 : q.2.2 = 0
      · have HT : Hid (R = (true, { S with M := keepM S.M k ⟨q.1, q.2.1⟩, cnt := count })) := by show _ = _; rw [HR.out, if_pos ⟨g1, g2, g3⟩]
        have HKp : Hid (∀ X v, Below W.heap.size W X → SetIn (Yn Y w.heap.size X.heap.size) X v ⟨q.1, q.2.1⟩ → q.2.1.length ≤ 6 → Calls Tryz.prog 93 #[.pointer (some ⟨s, 0, none⟩), .string k, v, .int .i64 count] X fun e w' => e = .returned (.tuple #[]) ∧ (∃ mv', StIn (Yn Y w.heap.size w'.heap.size) w' s dv jv mv' (n + 1) { S with M := keepM S.M k ⟨q.1, q.2.1⟩, cnt := count }) ∧ Tr Y w w') := by
          intro X v hX hv hl
          refine (keep_any (Yn Y w.heap.size X.heap.size) s dv jv mv n S k v ⟨q.1, q.2.1⟩ count X ((HS.out.below hX).wide w.heap.size) (by unfold maxLen; omega) hn hv hl).mono ?_
          rintro e w' ⟨he, ⟨mv', h1⟩, h2⟩
          have hwX : w.heap.size ≤ X.heap.size := (belowN HB.out hX).size
          refine ⟨he, ⟨mv', h1.zone (fun i hi => ?_) (fun i hi => ?_)⟩, (below_tr (belowN HB.out hX) Y).trans' h2 fun i hi hy => ?_⟩
          · rcases hi with (hi | hi) | hi
            · exact .inl hi
            · exact .inr ⟨hi.1, Nat.lt_of_lt_of_le hi.2 h2.size⟩
            · exact .inr ⟨by omega, hi.2⟩
          · rcases hi with hi | hi
            · exact Nat.lt_of_lt_of_le (HS.out.lt i hi) (Nat.le_trans hX.size h2.size)
            · exact hi.2
          · rcases hy with hy | hy
            · exact hy
            · omega
        clear HR g1 g2
        go_enter Tryz.func86, Tryz.ntmps86
        go_upto_region 1 with (fail)
        clear hW
        go_quiet ((go_at_call 53; refine Calls.quiet_of_same (HK.out _)))
        go_wp2_with fail
        refine (HO.out _ (below_drewN hw0 _)).mono ?_
        intro e w2 hset
        obtain ⟨a1, l1, p1, a2, l2, p2, rfl, hv2, hb2, hl2⟩ := hset.set Y
        have hb3 : Below W.heap.size W w2 := belowN (below_drewN hw0 _) hb2
        have hv3 : SetIn (Yn Y w.heap.size w2.heap.size) w2 (.agg #[.slice a1 l1 p1, .slice a2 l2 p2]) ⟨q.1, q.2.1⟩ := hv2.mono fun i hi => hi.elim .inl fun hh => .inr ⟨Nat.le_trans HB.out.size hh.1, hh.2⟩
        obtain ⟨Z2, hZ2, hbZ, HVZ, hcz⟩ : ∃ Z2, w2.alloc (.cells #[.slice a1 l1 p1, .slice a2 l2 p2] 117) = Z2 ∧ Hid (Below W.heap.size W Z2) ∧ Hid (SetIn (Yn Y w.heap.size Z2.heap.size) Z2 (.agg #[.slice a1 l1 p1, .slice a2 l2 p2]) ⟨q.1, q.2.1⟩) ∧ Z2.heap[w2.heap.size]? = some (.cells #[.slice a1 l1 p1, .slice a2 l2 p2] 117 (0, 0)) :=
          ⟨_, rfl, belowA hb3, (hv3.below (belowA (Below.refl _ _))).mono fun i hi => hi.elim .inl fun hh => .inr ⟨hh.1, by have := hh.2; simp; omega⟩, heap_alloc_new w2 _⟩
        have z0 := row_c0 hcz
        have z1 := row_c1 hcz
        obtain ⟨y0, y1, y2, y3, y4, y5⟩ := HC.out Z2 hbZ.out
        have HKq := HKp.out Z2 _ hbZ.out HVZ.out hl2
        rw [g3]
        clear hv2 hv3 hb2 hset hcz HO HC HKp HNo hb3
        go_upto_region 4 with (fail)
        clear hZ2
        go_wp2_with fail
        refine HKq.mono ?_
        rintro e w' ⟨rfl, h5, h6⟩
        go_wp2
        go_ret
        exact ⟨by rw [HT.out]; rfl, by rw [HT.out]; exact h5, h6⟩
      · have HF : Hid (R = (false, S)) := by show _ = _; rw [HR.out, if_neg (fun h => g3 h.2.2)]
        have g3b : (q.2.2 != 0) = true := by simp [g3]
        clear HR g1 g2 g3
        go_enter Tryz.func86, Tryz.ntmps86
        go_upto_region 1 with (fail)
        clear hW
        go_quiet ((go_at_call 53; refine Calls.quiet_of_same (HK.out _)))
        go_wp2_with fail
        refine (HO.out _ (below_drewN hw0 _)).mono ?_
        intro e w2 hset
        obtain ⟨a1, l1, p1, a2, l2, p2, rfl, hv2, hb2, hl2⟩ := hset.set Y
        have hb3 : Below W.heap.size W w2 := belowN (below_drewN hw0 _) hb2
        clear hv2 hb2 hset hl2
        go_wp2
        go_ret
        obtain ⟨h5, h6⟩ := HNo.out _ HF.out (belowA (o := .cells #[.slice a1 l1 p1, .slice a2 l2 p2] 117) hb3)
        exact ⟨by rw [HF.out]; rfl, h5, h6⟩
  · have g1b : (count != S.cnt + 1) = true := by simp [g1]
    have HF : Hid (R = (false, S)) := by show _ = _; rw [HR.out, if_neg (fun h => g1 h.1)]
    clear HR HO HK g1
    go_enter Tryz.func86, Tryz.ntmps86
    go_upto_region 1 with (fail)
    clear hW
    go_quiet (fail)
    go_wp2
    go_ret
    obtain ⟨p1, p2⟩ := HNo.out _ HF.out (below_drewN hw0 _)
    exact ⟨by rw [HF.out]; rfl, p1, p2⟩
end Go.Proofs.YtilkdeghknjjhaaGreatDoor
/- The store with its journal and its disk: hold, write. -/
namespace Go.Proofs.YtilkdeghknjjhaaGreatDoor
open Go.RowKit M Go.Maps
set_option linter.unusedVariables false

theorem DiskAt.close {Z : Nat → Prop} {w : World} {p : Nat} {D : Dk} (h : DiskAt Z w p D) : DiskAt (fun k => Z k ∧ k < w.heap.size) w p D := by
  obtain ⟨a, b, c, d, h⟩ := h
  exact ⟨a, b, c, d, ⟨h.zp, (Array.getElem?_eq_some_iff.1 h.hp).1⟩, h.hp, h.rf, h.rn, h.rs, h.rt, fun k hk => ⟨h.zf k hk, (h.rf.lt k hk).2⟩, fun k hk => ⟨h.zn k hk, (h.rn.lt k hk).2⟩, fun k hk => ⟨h.zs k hk, (h.rs.lt k hk).2⟩, fun k hk => ⟨h.zt k hk, (h.rt.lt k hk).2⟩⟩
/-- A store that is open: its block, its journal, its disk. -/
structure Sto (Z Y : Nat → Prop) (w : World) (s j d : Nat) (mv : Value) (n : Nat) (D : Dk) (J : Jn) (S : St) : Prop where
  side : Side Z w j d D J
  st : StIn Y w s (.pointer (some ⟨d, 0, none⟩)) (.pointer (some ⟨j, 0, none⟩)) mv n S
  jz : ¬ Z j
  jy : ¬ Y j
  dj : ∀ k, Z k → Y k → False
  lz : ∀ k, Z k → k < w.heap.size
  v5 : ∀ k, k < 5 → ¬ Z k ∧ ¬ Y k
  j5 : 5 ≤ j
theorem Sto.jlt {Z Y : Nat → Prop} {w : World} {s j d : Nat} {mv : Value} {n : Nat} {D : Dk} {J : Jn} {S : St} (h : Sto Z Y w s j d mv n D J S) : j < w.heap.size := (Array.getElem?_eq_some_iff.1 h.side.jn).1
theorem Sto.below {Z Y : Nat → Prop} {w w' : World} {s j d : Nat} {mv : Value} {n : Nat} {D : Dk} {J : Jn} {S : St} (h : Sto Z Y w s j d mv n D J S) (b : Below w.heap.size w w') : Sto Z Y w' s j d mv n D J S :=
  ⟨h.side.below b, h.st.below b, h.jz, h.jy, h.dj, fun k hk => Nat.lt_of_lt_of_le (h.lz k hk) b.size, h.v5, h.j5⟩
/-- The disk's zone, opened. -/
theorem Sto.open_ {Z Y : Nat → Prop} {w : World} {s j d : Nat} {mv : Value} {n : Nat} {D : Dk} {J : Jn} {S : St} (h : Sto Z Y w s j d mv n D J S) :
    Side (Zn Z w.heap.size) w j d D J ∧ Apart (Zn Z w.heap.size) j ∧ Opn (Zn Z w.heap.size) w := by
  refine ⟨⟨h.side.dk.mono fun k hk => .inl hk, h.side.jn, h.side.vs⟩, ⟨fun hj => ?_, fun k hk hz => ?_, h.j5⟩, Zn.opn Z w⟩
  · rcases hj with hj | hj
    · exact h.jz hj
    · have := h.jlt; omega
  · rcases hz with hz | hz
    · exact (h.v5 k hk).1 hz
    · have := h.side.vs.five; omega
/-- The journal and the disk have turned. -/
theorem Sto.disk {Z Y : Nat → Prop} {w w' : World} {s j d : Nat} {mv : Value} {n : Nat} {D D' : Dk} {J J' : Jn} {S : St} (h : Sto Z Y w s j d mv n D J S) (hs : Side (Zn Z w.heap.size) w' j d D' J') (t : Tr (Zj (Zn Z w.heap.size) j) w w') :
    Sto (Yn Z w.heap.size w'.heap.size) Y w' s j d mv n D' J' S := by
  have hsep : ∀ k, Y k → ¬ Zj (Zn Z w.heap.size) j k := fun k hk hz => by
    rcases hz with (hz | hz) | hz
    · exact h.dj k hz hk
    · have := h.st.lt k hk; omega
    · exact h.jy (hz ▸ hk)
  refine ⟨⟨hs.dk.close.mono fun k hk => ?_, hs.jn, hs.vs⟩, h.st.tr t hsep, fun hj => ?_, h.jy, fun k hz hy => ?_, fun k hz => ?_, fun k hk => ⟨fun hz => ?_, (h.v5 k hk).2⟩, h.j5⟩
  · obtain ⟨hz | hz, hl⟩ := hk
    · exact .inl hz
    · exact .inr ⟨hz, hl⟩
  · rcases hj with hj | hj
    · exact h.jz hj
    · have := h.jlt; omega
  · rcases hz with hz | hz
    · exact h.dj k hz hy
    · have := h.st.lt k hy; omega
  · rcases hz with hz | hz
    · exact Nat.lt_of_lt_of_le (h.lz k hz) t.size
    · exact hz.2
  · rcases hz with hz | hz
    · exact (h.v5 k hk).1 hz
    · have := h.side.vs.five; omega
/-- What the store may turn: its own, its disk's, its journal's block. -/
def Zs (Z Y : Nat → Prop) (j : Nat) : Nat → Prop := fun k => Z k ∨ Y k ∨ k = j
/-- .. of the store itself its block alone. -/
def Zt (Z : Nat → Prop) (j s : Nat) : Nat → Prop := fun k => Z k ∨ k = j ∨ k = s
theorem Sto.trDisk {Z : Nat → Prop} {w w' : World} {j s : Nat} (t : Tr (Zj (Zn Z w.heap.size) j) w w') : Tr (Zt Z j s) w w' := t.mono fun k hk hz => by
  rcases hz with (hz | hz) | hz
  · exact .inl hz
  · omega
  · exact .inr (.inl hz)
/-- A set's rows are none of these. -/
theorem SetIn.zt {Z Y : Nat → Prop} {w w' : World} {s j d : Nat} {mv v : Value} {n : Nat} {D : Dk} {J : Jn} {S : St} {E : Se} (hs : Sto Z Y w s j d mv n D J S) (t : Tr (Zt Z j s) w w') (h : SetIn Y w v E) : SetIn Y w' v E := by
  obtain ⟨vc, vl, rfl, h1, h2, h3, h4⟩ := h.ex
  have hne : ∀ {e : TypeId} {sz : Nat} {u : Value} {k : Nat} {xs : List Value}, w.ownsRow 0 e sz u k xs → InZ Y u → e ≠ 86 → w'.ownsRow 0 e sz u k xs := by
    intro e sz u k xs ho hz he
    refine ⟨ho.1, ?_⟩
    rcases ho.2 with hn | ⟨g, cap, cur, rfl, hb, hg, rest⟩
    · exact .inl hn
    · refine .inr ⟨g, cap, cur, rfl, hb, t.heap hg (fun hx => ?_), rest⟩
      have hy : Y g := hz g (by simp [Value.ownBlock])
      rcases hx with hx | hx | hx
      · exact hs.dj g hx hy
      · exact hs.jy (hx ▸ hy)
      · rw [hx, hs.st.hs] at hg
        injection hg with hg
        injection hg with _ h2 _
        exact he h2.symm
  exact ⟨vc, vl, rfl, hne h1 h3 (by decide), hne h2 h4 (by decide), h3, h4⟩
/-- A cell of the store's block is written. -/
theorem Sto.set {Z Y : Nat → Prop} {w : World} {s j d : Nat} {mv : Value} {n : Nat} {D : Dk} {J : Jn} {S S' : St} (h : Sto Z Y w s j d mv n D J S) (o : Nat) (u : Value)
    (hst : StIn Y (w.setCell ⟨s, o, none⟩ u) s (.pointer (some ⟨d, 0, none⟩)) (.pointer (some ⟨j, 0, none⟩)) mv n S') : Sto Z Y (w.setCell ⟨s, o, none⟩ u) s j d mv n D J S' ∧ Tr (Zt Z j s) w (w.setCell ⟨s, o, none⟩ u) := by
  have t : Tr (One s) w (w.setCell ⟨s, o, none⟩ u) := (Tr.refl _ w).set1 o u
  have hsz : (w.setCell ⟨s, o, none⟩ u).heap.size = w.heap.size := by simp [World.setCell]
  refine ⟨⟨⟨h.side.dk.tr t (fun k hk (e : k = s) => h.dj k hk (e ▸ h.st.ys)), h.side.jn.tr t (fun (e : j = s) => h.jy (e ▸ h.st.ys)), h.side.vs.tr t (fun k hk (e : k = s) => (h.v5 k hk).2 (e ▸ h.st.ys))⟩, hst, h.jz, h.jy, h.dj, fun k hk => by rw [hsz]; exact h.lz k hk, h.v5, h.j5⟩, t.mono fun k _ (e : k = s) => .inr (.inr e)⟩

/-- What hold does. -/
def holdF (D : Dk) (J : Jn) (S : St) : Bool × Dk × St := if (jsync D J).1 = true then (true, (jsync D J).2, { S with held := S.cnt }) else (false, (jsync D J).2, S)

set_option maxRecDepth 20000 in
set_option maxHeartbeats 800000 in
theorem hold_any (Z Y : Nat → Prop) (s j d : Nat) (mv : Value) (n : Nat) (D : Dk) (J : Jn) (S : St) (w : World) (h : Sto Z Y w s j d mv n D J S) (hwf : D.WF) (hbu : D.Bud 2) (hn : J.num < 1000000000) :
    Calls Tryz.prog 41 #[.pointer (some ⟨s, 0, none⟩)] w fun e w' => e = .returned (.bool (holdF D J S).1) ∧ (∃ Z', Sto Z' Y w' s j d mv n (holdF D J S).2.1 J (holdF D J S).2.2 ∧ ∀ k, Z' k → Z k ∨ w.heap.size ≤ k) ∧ Tr (Zt Z j s) w w' := by
  obtain ⟨o1, o2, o3⟩ := h.open_
  have HS := jSync_any (Zn Z w.heap.size) j d D J w o1 o2 hwf hbu hn
  have c4 : w.cell? ⟨s, 4, none⟩ = some (.pointer (some ⟨j, 0, none⟩)) := (h.st.cell 4).trans rfl
  have HH : Hid (holdF D J S = if (jsync D J).1 = true then (true, (jsync D J).2, { S with held := S.cnt }) else (false, (jsync D J).2, S)) := rfl
  obtain ⟨⟨b, D1⟩, hq⟩ : ∃ q, jsync D J = q := ⟨_, rfl⟩
  rw [hq] at HS HH
  simp only at HS HH
  have H0 : Hid (Sto Z Y w s j d mv n D J S) := h
  clear hq h hwf hbu o1 o2 o3
  go_enter Tryz.func41, Tryz.ntmps41
  go_wp2_with fail
  refine HS.mono ?_
  rintro e w1 ⟨rfl, h1, t1⟩
  have h2 := H0.out.disk h1 (t1.zj j)
  have T2 : Hid (Tr (Zt Z j s) w w1) := Sto.trDisk (t1.zj j)
  have HZ : Hid (∀ k, Yn Z w.heap.size w1.heap.size k → Z k ∨ w.heap.size ≤ k) := fun k hk => hk.imp (fun h => h) (fun h => h.1)
  have f6 : w1.cell? ⟨s, 6, none⟩ = some (.int .i64 S.cnt) := (h2.st.cell 6).trans rfl
  have f7 : w1.cell? ⟨s, 7, none⟩ = some (.int .i64 S.held) := (h2.st.cell 7).trans rfl
  have fz : ∀ o, w1.frozen? ⟨s, o, none⟩ = false := h2.st.frozen
  have H2 : Hid (Sto (Yn Z w.heap.size w1.heap.size) Y w1 s j d mv n D1 J S) := h2
  clear h1 t1 h2 c4 H0
  cases b
  · have HE : Hid (holdF D J S = (false, D1, S)) := HH
    clear HH
    go_wp2
    go_ret
    exact ⟨by rw [HE.out]; rfl, ⟨_, by rw [HE.out]; exact H2.out, HZ.out⟩, T2.out⟩
  · have HE : Hid (holdF D J S = (true, D1, { S with held := S.cnt })) := HH
    clear HH
    go_wp2
    go_ret
    obtain ⟨h3, t3⟩ := H2.out.set 7 (.int .i64 S.cnt) (H2.out.st.setS (S' := { S with held := S.cnt }) 7 _ rfl rfl)
    refine ⟨by rw [HE.out]; rfl, ⟨_, by rw [HE.out]; exact h3, HZ.out⟩, T2.out.trans' t3 fun k hk hz => ?_⟩
    rcases hz with (hz | hz) | hz
    · exact .inl hz
    · omega
    · exact .inr hz
end Go.Proofs.YtilkdeghknjjhaaGreatDoor
/- The store: write. -/
namespace Go.Proofs.YtilkdeghknjjhaaGreatDoor
open Go.RowKit M Go.Maps
set_option linter.unusedVariables false

/-- The store behind a call: in a zone that has grown at most. -/
def StoE (Z Y : Nat → Prop) (w w' : World) (s j d : Nat) (mv : Value) (n : Nat) (D : Dk) (J : Jn) (S : St) : Prop :=
  (∃ Z', Sto Z' Y w' s j d mv n D J S ∧ ∀ k, Z' k → Z k ∨ w.heap.size ≤ k) ∧ Tr (Zt Z j s) w w'
theorem StoE.refl {Z Y : Nat → Prop} {w : World} {s j d : Nat} {mv : Value} {n : Nat} {D : Dk} {J : Jn} {S : St} (h : Sto Z Y w s j d mv n D J S) : StoE Z Y w w s j d mv n D J S := ⟨⟨Z, h, fun k hk => .inl hk⟩, Tr.refl _ _⟩
theorem StoE.below {Z Y : Nat → Prop} {w w1 w' : World} {s j d : Nat} {mv : Value} {n : Nat} {D : Dk} {J : Jn} {S : St} (hb : Below w.heap.size w w1) (h : StoE Z Y w1 w' s j d mv n D J S) : StoE Z Y w w' s j d mv n D J S := by
  obtain ⟨⟨Z', h1, h2⟩, t⟩ := h
  exact ⟨⟨Z', h1, fun k hk => (h2 k hk).imp (fun h => h) (fun h => Nat.le_trans hb.size h)⟩, (below_tr hb _).trans t⟩
theorem StoE.trans {Z Z1 Y : Nat → Prop} {w w1 w' : World} {s j d : Nat} {mv : Value} {n : Nat} {D : Dk} {J : Jn} {S : St} (t : Tr (Zt Z j s) w w1) (hz : ∀ k, Z1 k → Z k ∨ w.heap.size ≤ k) (h : StoE Z1 Y w1 w' s j d mv n D J S) : StoE Z Y w w' s j d mv n D J S := by
  obtain ⟨⟨Z', h1, h2⟩, t2⟩ := h
  refine ⟨⟨Z', h1, fun k hk => ?_⟩, t.trans' t2 fun k hk hx => ?_⟩
  · rcases h2 k hk with h | h
    · exact hz k h
    · exact .inr (Nat.le_trans t.size h)
  · rcases hx with hx | hx
    · rcases hz k hx with h | h
      · exact .inl h
      · omega
    · exact .inr hx

/-- What write does. -/
def writeF (D : Dk) (J : Jn) (S : St) (t : ByteArray) : Bool × Dk × Jn × St :=
  if (jappend D J t).1 = false then (false, (jappend D J t).2.1, (jappend D J t).2.2, S)
  else if S.every = 0 ∨ S.cnt - S.held < S.every then (true, (jappend D J t).2.1, (jappend D J t).2.2, S)
  else ((holdF (jappend D J t).2.1 (jappend D J t).2.2 S).1, (holdF (jappend D J t).2.1 (jappend D J t).2.2 S).2.1, (jappend D J t).2.2, (holdF (jappend D J t).2.1 (jappend D J t).2.2 S).2.2)
theorem jwrite_wf {D : Dk} (h : D.WF) (hb : D.Bud 1) (J : Jn) (t : ByteArray) (hs : D.sizeOf (fnm J.num) + t.size ≤ 1000000000) : (jwrite D J t).2.1.WF := by
  have := h.append hb.lt (fnm J.num) t hs
  unfold jwrite
  split <;> exact this
theorem jwrite_bud {D : Dk} {k : Nat} (hb : D.Bud (k + 1)) (J : Jn) (t : ByteArray) : (jwrite D J t).2.1.Bud k := by
  unfold jwrite
  split <;> exact hb.append _ _
theorem jwrite_num (D : Dk) (J : Jn) (t : ByteArray) : (jwrite D J t).2.2.num = J.num := by unfold jwrite; split <;> rfl
theorem jappend_num (D : Dk) (J : Jn) (t : ByteArray) : (jappend D J t).2.2.num ≤ J.num + 1 := by
  have := jbegin_num D J
  unfold jappend
  split
  · split
    · rw [jwrite_num]; exact this.1
    · exact this.1
  · rw [jwrite_num]; omega
theorem jappend_bud {D : Dk} {k : Nat} (hw : D.WF) (hb : D.Bud (k + 3)) (J : Jn) (t : ByteArray) : (jappend D J t).2.1.Bud k := by
  unfold jappend
  split
  · split
    · exact jwrite_bud (jbegin_bud hw hb J) _ _
    · exact (jbegin_bud hw (k := k + 1) hb J).mono (by omega)
  · exact (jwrite_bud (k := k + 2) hb J t).mono (by omega)

set_option maxRecDepth 20000 in
set_option maxHeartbeats 1600000 in
theorem swrite_any (Z Y : Nat → Prop) (s j d : Nat) (mv : Value) (n : Nat) (D : Dk) (J : Jn) (S : St) (m : Mt) (vc : Value) (w : World) (h : Sto Z Y w s j d mv n D J S) (hwf : D.WF) (hwf2 : (jappend D J (encM m)).2.1.WF) (hbu : D.Bud 5) (hn : J.num < 900000000) (hs : J.size ≤ 1000000000) (hr : J.roll ≤ 1000000000)
    (hrd : Rd w vc m.c) (hk : m.k.size ≤ 255) (hv : m.v.size ≤ 255) (hc0 : 0 ≤ S.held) (hc1 : S.held ≤ S.cnt) (hc2 : S.cnt ≤ 4611686018427387904) :
    Calls Tryz.prog 94 #[.pointer (some ⟨s, 0, none⟩), mtV m vc] w fun e w' => e = .returned (.bool (writeF D J S (encM m)).1) ∧ StoE Z Y w w' s j d mv n (writeF D J S (encM m)).2.1 (writeF D J S (encM m)).2.2.1 (writeF D J S (encM m)).2.2.2 := by
  have hb5 := jappend_bud (k := 2) hwf hbu J (encM m)
  have hnn := jappend_num D J (encM m)
  obtain ⟨del, node, count, k, c, v⟩ := m
  obtain ⟨av, lv, cv, rfl⟩ : ∃ a l cap, vc = .slice a l cap := by obtain ⟨a, cap, h, _⟩ := hrd; exact ⟨_, _, _, h⟩
  have HW : Hid (writeF D J S (encM ⟨del, node, count, k, c, v⟩) = if (jappend D J (encM ⟨del, node, count, k, c, v⟩)).1 = false then (false, (jappend D J (encM ⟨del, node, count, k, c, v⟩)).2.1, (jappend D J (encM ⟨del, node, count, k, c, v⟩)).2.2, S)
    else if S.every = 0 ∨ S.cnt - S.held < S.every then (true, (jappend D J (encM ⟨del, node, count, k, c, v⟩)).2.1, (jappend D J (encM ⟨del, node, count, k, c, v⟩)).2.2, S)
    else ((holdF (jappend D J (encM ⟨del, node, count, k, c, v⟩)).2.1 (jappend D J (encM ⟨del, node, count, k, c, v⟩)).2.2 S).1, (holdF (jappend D J (encM ⟨del, node, count, k, c, v⟩)).2.1 (jappend D J (encM ⟨del, node, count, k, c, v⟩)).2.2 S).2.1, (jappend D J (encM ⟨del, node, count, k, c, v⟩)).2.2, (holdF (jappend D J (encM ⟨del, node, count, k, c, v⟩)).2.1 (jappend D J (encM ⟨del, node, count, k, c, v⟩)).2.2 S).2.2)) := rfl
  obtain ⟨W, hW, HB, hrow⟩ : ∃ W, (w.alloc (.cells #[.bool del, .int .i64 node, .int .i64 count, .string k, .slice av lv cv, .string v] 111)) = W ∧ Hid (Below w.heap.size w W) ∧ W.heap[w.heap.size]? = some (.cells #[.bool del, .int .i64 node, .int .i64 count, .string k, .slice av lv cv, .string v] 111 (0, 0)) :=
    ⟨_, rfl, (Below.refl _ _).alloc (Nat.le_refl _) _, heap_alloc_new w _⟩
  have H0 : Hid (Sto Z Y W.drew s j d mv n D J S) := h.below (Below.drew HB.out)
  obtain ⟨o1, o2, o3⟩ := H0.out.open_
  have HA : Hid (Calls Tryz.prog 157 #[.pointer (some ⟨j, 0, none⟩), .agg #[.bool del, .int .i64 node, .int .i64 count, .string k, .slice av lv cv, .string v]] W.drew fun e w' => e = .returned (.bool (jappend D J (encM ⟨del, node, count, k, c, v⟩)).1) ∧ Side (Zn Z W.drew.heap.size) w' j d (jappend D J (encM ⟨del, node, count, k, c, v⟩)).2.1 (jappend D J (encM ⟨del, node, count, k, c, v⟩)).2.2 ∧ Tr (Zj (Zn Z W.drew.heap.size) j) W.drew w') :=
    jAppend_any (Zn Z W.drew.heap.size) j d D J ⟨del, node, count, k, c, v⟩ (.slice av lv cv) W.drew o1 o2 o3 hwf (hbu.mono (by omega)) hn hs hr (hrd.below (Below.drew HB.out)) hk hv
  have hcell : ∀ o, W.cell? ⟨w.heap.size, o, none⟩ = #[Value.bool del, .int .i64 node, .int .i64 count, .string k, .slice av lv cv, .string v][o]? := fun o => by rw [cell_of_row _ _ _ _ _ _ hrow]
  have x0 : W.drew.cell? ⟨w.heap.size, 0, none⟩ = some (.bool del) := (hcell 0).trans rfl
  have x1 : W.drew.cell? ⟨w.heap.size, 1, none⟩ = some (.int .i64 node) := (hcell 1).trans rfl
  have x2 : W.drew.cell? ⟨w.heap.size, 2, none⟩ = some (.int .i64 count) := (hcell 2).trans rfl
  have x3 : W.drew.cell? ⟨w.heap.size, 3, none⟩ = some (.string k) := (hcell 3).trans rfl
  have x4 : W.drew.cell? ⟨w.heap.size, 4, none⟩ = some (.slice av lv cv) := (hcell 4).trans rfl
  have x5 : W.drew.cell? ⟨w.heap.size, 5, none⟩ = some (.string v) := (hcell 5).trans rfl
  have c4 : W.drew.cell? ⟨s, 4, none⟩ = some (.pointer (some ⟨j, 0, none⟩)) := (H0.out.st.cell 4).trans rfl
  obtain ⟨⟨b, D1, J1⟩, hq⟩ : ∃ q, jappend D J (encM ⟨del, node, count, k, c, v⟩) = q := ⟨_, rfl⟩
  obtain ⟨R, hR⟩ : ∃ R, writeF D J S (encM ⟨del, node, count, k, c, v⟩) = R := ⟨_, rfl⟩
  rw [hq] at HA HW hb5 hnn hwf2
  rw [hR] at HW ⊢
  simp only at HA HW hb5 hnn hwf2
  have HH : Hid (∀ X Z1, Sto Z1 Y X s j d mv n D1 J1 S → Calls Tryz.prog 41 #[.pointer (some ⟨s, 0, none⟩)] X fun e w' => e = .returned (.bool (holdF D1 J1 S).1) ∧ StoE Z1 Y X w' s j d mv n (holdF D1 J1 S).2.1 J1 (holdF D1 J1 S).2.2) := fun X Z1 hX => hold_any Z1 Y s j d mv n D1 J1 S X hX hwf2 hb5 (by omega)
  have hcw : IntKind.i64.wrap (S.cnt - S.held) = S.cnt - S.held := wrap_in _ (by omega) (by omega)
  have hx0 : (0 : Int) ≤ S.cnt - S.held := by omega
  have hx1 : S.cnt - S.held ≤ 4611686018427387904 := by omega
  have HT : Hid (∀ w1, Side (Zn Z W.drew.heap.size) w1 j d D1 J1 → Tr (Zj (Zn Z W.drew.heap.size) j) W.drew w1 → ∃ Z1, Sto Z1 Y w1 s j d mv n D1 J1 S ∧ (∀ w' DD JJ SS, StoE Z1 Y w1 w' s j d mv n DD JJ SS → StoE Z Y w w' s j d mv n DD JJ SS)) := by
    intro w1 g1 g2
    exact ⟨_, H0.out.disk g1 g2, fun w' DD JJ SS hh => StoE.below (Below.drew HB.out) (StoE.trans (Sto.trDisk g2) (fun k hk => hk.imp (fun h => h) fun h => h.1) hh)⟩
  have HK : Hid (∀ w1, Side (Zn Z W.drew.heap.size) w1 j d D1 J1 → Tr (Zj (Zn Z W.drew.heap.size) j) W.drew w1 → w1.cell? ⟨s, 4, none⟩ = some (.pointer (some ⟨j, 0, none⟩)) ∧ w1.cell? ⟨w.heap.size, 0, none⟩ = some (.bool del) ∧ w1.cell? ⟨w.heap.size, 1, none⟩ = some (.int .i64 node) ∧ w1.cell? ⟨w.heap.size, 2, none⟩ = some (.int .i64 count) ∧ w1.cell? ⟨w.heap.size, 3, none⟩ = some (.string k) ∧ w1.cell? ⟨w.heap.size, 4, none⟩ = some (.slice av lv cv) ∧ w1.cell? ⟨w.heap.size, 5, none⟩ = some (.string v)) := by
    intro w1 g1 g2
    have hws : w.heap.size < W.drew.heap.size := by
      have : W.drew.heap.size = w.heap.size + 1 := by rw [← hW]; simp
      omega
    have hz : ¬ Zj (Zn Z W.drew.heap.size) j w.heap.size := fun hz => by
      rcases hz with (hz | hz) | hz
      · have := h.lz _ hz; omega
      · omega
      · have := h.jlt; omega
    exact ⟨((H0.out.disk g1 g2).st.cell 4).trans rfl, cell_tr g2 x0 hz, cell_tr g2 x1 hz, cell_tr g2 x2 hz, cell_tr g2 x3 hz, cell_tr g2 x4 hz, cell_tr g2 x5 hz⟩
  clear hq hR hrd h o1 o2 o3 hrow hcell hwf hwf2 hbu hb5 hnn hn hs hr hk hv H0 HB
  unfold mtV
  simp only
  go_enter Tryz.func94, Tryz.ntmps94
  go_upto_region 1 with (fail)
  clear hW
  go_region_held3 (fun w' => w'.cell? ⟨s, 4, none⟩ = some (.pointer (some ⟨j, 0, none⟩)) ∧ w'.cell? ⟨w.heap.size, 0, none⟩ = some (.bool del) ∧ w'.cell? ⟨w.heap.size, 1, none⟩ = some (.int .i64 node) ∧ w'.cell? ⟨w.heap.size, 2, none⟩ = some (.int .i64 count) ∧ w'.cell? ⟨w.heap.size, 3, none⟩ = some (.string k) ∧ w'.cell? ⟨w.heap.size, 4, none⟩ = some (.slice av lv cv) ∧ w'.cell? ⟨w.heap.size, 5, none⟩ = some (.string v))
    (first | exact ⟨c4, x0, x1, x2, x3, x4, x5⟩ | assumption)
    (first
      | ((go_at_call 157; refine HA.out.mono ?_; rintro e w1 ⟨rfl, g1, g2⟩; have hkk := HK.out w1 g1 g2)))
  obtain ⟨Z1, hS1, hEnd⟩ := HT.out w1 g1 g2
  have HS1 : Hid (Sto Z1 Y w1 s j d mv n D1 J1 S) := hS1
  have HEnd : Hid (∀ w' DD JJ SS, StoE Z1 Y w1 w' s j d mv n DD JJ SS → StoE Z Y w w' s j d mv n DD JJ SS) := hEnd
  have f2 : w1.cell? ⟨s, 2, none⟩ = some (.int .i64 S.every) := (hS1.st.cell 2).trans rfl
  have f6 : w1.cell? ⟨s, 6, none⟩ = some (.int .i64 S.cnt) := (hS1.st.cell 6).trans rfl
  have f7 : w1.cell? ⟨s, 7, none⟩ = some (.int .i64 S.held) := (hS1.st.cell 7).trans rfl
  clear hkk g1 g2 hS1 hEnd x0 x1 x2 x3 x4 x5 c4 HA HT HK
  cases b
  · have HE : Hid (R = (false, D1, J1, S)) := by show _ = _; rw [HW.out, if_pos rfl]
    clear HW
    go_wp2
    go_ret
    exact ⟨by rw [HE.out]; rfl, by rw [HE.out]; exact HEnd.out _ _ _ _ (StoE.refl HS1.out)⟩
  · go_upto_region 3 with (fail)
    by_cases q1 : S.every = 0
    · have HE : Hid (R = (true, D1, J1, S)) := by show _ = _; rw [HW.out, if_neg (by simp), if_pos (.inl q1)]
      have q1b : (S.every == 0) = true := by simp [q1]
      clear HW q1
      go_quiet (fail)
      go_wp2
      go_ret
      exact ⟨by rw [HE.out]; rfl, by rw [HE.out]; exact HEnd.out _ _ _ _ (StoE.below (below_drewN (Below.refl _ _) _) (StoE.refl (HS1.out.below (below_drewN (Below.refl _ _) _))))⟩
    · have q1b : (S.every == 0) = false := by simp [q1]
      by_cases q2 : S.cnt - S.held < S.every
      · have HE : Hid (R = (true, D1, J1, S)) := by show _ = _; rw [HW.out, if_neg (by simp), if_pos (.inr q2)]
        clear HW q1
        go_quiet (fail)
        go_wp2
        go_ret
        exact ⟨by rw [HE.out]; rfl, by rw [HE.out]; exact HEnd.out _ _ _ _ (StoE.below (below_drewN (Below.refl _ _) _) (StoE.refl (HS1.out.below (below_drewN (Below.refl _ _) _))))⟩
      · have HE : Hid (R = ((holdF D1 J1 S).1, (holdF D1 J1 S).2.1, J1, (holdF D1 J1 S).2.2)) := by show _ = _; rw [HW.out, if_neg (by simp), if_neg (fun h => h.elim q1 q2)]
        obtain ⟨hq3, hq3e⟩ : ∃ q, holdF D1 J1 S = q := ⟨_, rfl⟩
        rw [hq3e] at HE HH
        clear HW q1 hq3e
        go_quiet (fail)
        go_wp2_with fail
        refine (HH.out _ Z1 (HS1.out.below (below_drewN (Below.refl _ _) _))).mono ?_
        rintro e w2 ⟨rfl, h2⟩
        go_wp2
        go_ret
        exact ⟨by rw [HE.out]; rfl, by rw [HE.out]; exact HEnd.out _ _ _ _ (StoE.below (below_drewN (Below.refl _ _) _) h2)⟩
end Go.Proofs.YtilkdeghknjjhaaGreatDoor
/- The store: what a call leaves; the end of do. -/
namespace Go.Proofs.YtilkdeghknjjhaaGreatDoor
open Go.RowKit M Go.Maps
set_option linter.unusedVariables false

/-- The store behind a call: in zones that have grown at most. -/
def StoX (Z Y : Nat → Prop) (w w' : World) (s j d : Nat) (n : Nat) (D : Dk) (J : Jn) (S : St) : Prop :=
  (∃ Z' Y' mv', Sto Z' Y' w' s j d mv' n D J S ∧ (∀ k, Z' k → Z k ∨ w.heap.size ≤ k) ∧ (∀ k, Y' k → Y k ∨ w.heap.size ≤ k)) ∧ Tr (Zs Z Y j) w w'
theorem StIn.more {Y : Nat → Prop} {w : World} {s : Nat} {dv jv mv : Value} {n m : Nat} {S : St} (h : StIn Y w s dv jv mv n S) (hm : n ≤ m) : StIn Y w s dv jv mv m S := ⟨h.lt, h.ys, h.ym, h.hs, h.tab.mono (fun _ hk => hk) hm⟩
theorem Sto.more {Z Y : Nat → Prop} {w : World} {s j d : Nat} {mv : Value} {n m : Nat} {D : Dk} {J : Jn} {S : St} (h : Sto Z Y w s j d mv n D J S) (hm : n ≤ m) : Sto Z Y w s j d mv m D J S :=
  ⟨h.side, h.st.more hm, h.jz, h.jy, h.dj, h.lz, h.v5, h.j5⟩
theorem StoX.refl {Z Y : Nat → Prop} {w w' : World} {s j d : Nat} {mv : Value} {n m : Nat} {D : Dk} {J : Jn} {S : St} (h : Sto Z Y w s j d mv n D J S) (hb : Below w.heap.size w w') (hm : n ≤ m) : StoX Z Y w w' s j d m D J S :=
  ⟨⟨Z, Y, mv, (h.below hb).more hm, fun k hk => .inl hk, fun k hk => .inl hk⟩, below_tr hb _⟩
theorem StoX.trans {Z Z1 Y Y1 : Nat → Prop} {w w1 w' : World} {s j d : Nat} {n : Nat} {D : Dk} {J : Jn} {S : St} (t : Tr (Zs Z Y j) w w1) (hz : ∀ k, Z1 k → Z k ∨ w.heap.size ≤ k) (hy : ∀ k, Y1 k → Y k ∨ w.heap.size ≤ k) (h : StoX Z1 Y1 w1 w' s j d n D J S) : StoX Z Y w w' s j d n D J S := by
  obtain ⟨⟨Z', Y', mv', h1, h2, h3⟩, t2⟩ := h
  refine ⟨⟨Z', Y', mv', h1, fun k hk => ?_, fun k hk => ?_⟩, t.trans' t2 fun k hk hx => ?_⟩
  · rcases h2 k hk with h | h
    · exact hz k h
    · exact .inr (Nat.le_trans t.size h)
  · rcases h3 k hk with h | h
    · exact hy k h
    · exact .inr (Nat.le_trans t.size h)
  · rcases hx with hx | hx | hx
    · rcases hz k hx with h | h
      · exact .inl h
      · omega
    · rcases hy k hx with h | h
      · exact .inr (.inl h)
      · omega
    · exact .inr (.inr hx)
theorem StoX.below {Z Y : Nat → Prop} {w w1 w' : World} {s j d : Nat} {n : Nat} {D : Dk} {J : Jn} {S : St} (hb : Below w.heap.size w w1) (h : StoX Z Y w1 w' s j d n D J S) : StoX Z Y w w' s j d n D J S :=
  StoX.trans (below_tr hb _) (fun k hk => .inl hk) (fun k hk => .inl hk) h
theorem StoE.x {Z Y : Nat → Prop} {w w' : World} {s j d : Nat} {mv : Value} {n : Nat} {D : Dk} {J : Jn} {S : St} (h : StoE Z Y w w' s j d mv n D J S) : StoX Z Y w w' s j d n D J S := by
  obtain ⟨⟨Z', h1, h2⟩, t⟩ := h
  refine ⟨⟨Z', Y, mv, h1, h2, fun k hk => .inl hk⟩, t.mono fun k _ hk => ?_⟩
  rcases hk with hk | hk | hk
  · exact .inl hk
  · exact .inr (.inr hk)
  · exact .inr (.inl (hk ▸ h1.st.ys))
/-- The store's own has turned. -/
theorem Sto.own {Z Y Y' : Nat → Prop} {w w' : World} {s j d : Nat} {mv mv' : Value} {n n' : Nat} {D : Dk} {J : Jn} {S S' : St} (h : Sto Z Y w s j d mv n D J S) (t : Tr Y w w') (hst : StIn Y' w' s (.pointer (some ⟨d, 0, none⟩)) (.pointer (some ⟨j, 0, none⟩)) mv' n' S') (hY : ∀ k, Y' k → Y k ∨ w.heap.size ≤ k) :
    Sto Z Y' w' s j d mv' n' D J S' := by
  have hj := h.jlt
  have h5 := h.side.vs.five
  refine ⟨⟨h.side.dk.tr t (fun k hk hy => h.dj k hk hy), h.side.jn.tr t h.jy, h.side.vs.tr t (fun k hk => (h.v5 k hk).2)⟩, hst, h.jz, fun hjy => ?_, fun k hz hy => ?_, fun k hz => Nat.lt_of_lt_of_le (h.lz k hz) t.size, fun k hk => ⟨(h.v5 k hk).1, fun hy => ?_⟩, h.j5⟩
  · rcases hY j hjy with h | h
    · exact absurd h ‹Sto Z Y w s j d mv n D J S›.jy
    · omega
  · rcases hY k hy with h' | h'
    · exact h.dj k hz h'
    · have := h.lz k hz; omega
  · rcases hY k hy with h' | h'
    · exact (h.v5 k hk).2 h'
    · omega

set_option maxRecDepth 20000 in
set_option maxHeartbeats 800000 in
/-- The end of do, where the disk has taken the mutation: nothing. -/
theorem doEnd_yes (tk sb mb bb : Nat) (u : FrameMode) (w : World) (h : w.cell? ⟨tk, 0, none⟩ = some (.bool true)) :
    CallsD Tryz.prog 92 #[.pointer (some ⟨tk, 0, none⟩), .pointer (some ⟨sb, 0, none⟩), .pointer (some ⟨mb, 0, none⟩), .pointer (some ⟨bb, 0, none⟩)] u w fun e u' w' => u' = u ∧ (e = .returned (.tuple #[]) ∧ w' = w) := by
  go_enter_d Tryz.func92, Tryz.ntmps92
  go_wp2
  go_end0
  exact ⟨rfl, rfl⟩
set_option maxRecDepth 20000 in
set_option maxHeartbeats 1600000 in
/-- .. else: the key has what it had. -/
theorem doEnd_no (Y : Nat → Prop) (s : Nat) (dv jv mv : Value) (n : Nat) (S : St) (tk sb mb bb : Nat) (u : FrameMode) (w : World) (a1 a2 : Option Addr) (l1 p1 l2 p2 : Nat) (E : Se) (k : ByteArray) (c : Int) (h : StIn Y w s dv jv mv n S)
    (h1 : w.cell? ⟨tk, 0, none⟩ = some (.bool false)) (h2 : w.cell? ⟨sb, 0, none⟩ = some (.pointer (some ⟨s, 0, none⟩))) (h3 : w.cell? ⟨mb, 3, none⟩ = some (.string k)) (h4 : w.cell? ⟨mb, 2, none⟩ = some (.int .i64 c)) (h5 : w.heap[bb]? = some (.cells #[.slice a1 l1 p1, .slice a2 l2 p2] 117 (0, 0)))
    (hv : SetIn Y w (.agg #[.slice a1 l1 p1, .slice a2 l2 p2]) E) (hE : E.L.length ≤ 6) (hk : k.size ≤ maxLen) (hn : n < 1000000000000) (hc0 : 0 ≤ c) (hc1 : c ≤ 9223372036854775807) :
    CallsD Tryz.prog 92 #[.pointer (some ⟨tk, 0, none⟩), .pointer (some ⟨sb, 0, none⟩), .pointer (some ⟨mb, 0, none⟩), .pointer (some ⟨bb, 0, none⟩)] u w fun e u' w' => u' = u ∧ (e = .returned (.tuple #[]) ∧ (∃ mv', StIn (Yn Y w.heap.size w'.heap.size) w' s dv jv mv' (n + 1) { S with M := keepM S.M k E, cnt := c - 1 }) ∧ Tr Y w w') := by
  have HK : Hid (Calls Tryz.prog 93 #[.pointer (some ⟨s, 0, none⟩), .string k, .agg #[.slice a1 l1 p1, .slice a2 l2 p2], .int .i64 (c - 1)] w fun e w' => e = .returned (.tuple #[]) ∧ (∃ mv', StIn (Yn Y w.heap.size w'.heap.size) w' s dv jv mv' (n + 1) { S with M := keepM S.M k E, cnt := c - 1 }) ∧ Tr Y w w') := keep_any Y s dv jv mv n S k _ E (c - 1) w h hk hn hv hE
  have g0 := row_c0 h5
  have g1 := row_c1 h5
  clear h h5 hv hE hk hn
  go_enter_d Tryz.func92, Tryz.ntmps92
  go_wp2_with fail
  refine HK.out.mono ?_
  rintro e w' ⟨rfl, q1, q2⟩
  go_wp2
  go_end0
  exact ⟨rfl, q1, q2⟩
end Go.Proofs.YtilkdeghknjjhaaGreatDoor
