/- The table: what is kept by key, as a map in memory. Plain facts; nothing is walked here. -/
import Derived.Test.YtilkdeghknjjhaaGreatDoorPart24
import Derived.Test.YtilkdeghknjjhaaGreatDoorPart37
import Derived.Maps.OwnSet
import Derived.Sort.KeysCollected
import Derived.Sort.Walk0
import Derived.Test.YtilkdeghknjjhaaGreatDoorPart30
import Derived.RegionTactic
import Derived.Test.YtilkdeghknjjhaaGreatDoorPart04
namespace Go.Proofs.YtilkdeghknjjhaaGreatDoor
open Go.RowKit M Go.Maps
set_option linter.unusedVariables false

/-- What a value in a map reads as: itself. -/
abbrev RV : Value → Option (DataW Value × List MemPlace) := fun v => some (.held v, [])
theorem keyedS : Keyed Tryz.prog 9 := string_keyed Tryz.underlying9
def klS (k : ByteArray) : Lit := .string k.data.toList
theorem klS_inj {a b : ByteArray} (h : klS a = klS b) : a = b := by
  unfold klS at h
  have h1 : a.data.toList = b.data.toList := by simpa using h
  exact toList_inj (by rw [Lib.toList_data, Lib.toList_data, h1])
theorem klS_key (k : ByteArray) (h : k.size ≤ maxLen) : keyOf Tryz.prog 9 (.string k) = some (klS k) := WideMaps.keyOf_string_mk Tryz.underlying9 h

/-- A set, as a value. -/
def SetV (v : Value) : Prop := ∃ a n c a' n' c', v = .agg #[.slice a n c, .slice a' n' c']
/-- A map block that holds a value by each key of a function. -/
structure TabD (w : World) (b n : Nat) (D : DataW Value) (T : ByteArray → Option Value) : Prop where
  own : w.ownsMap Tryz.prog 9 RV b n D
  at_ : ∀ k z, D.atKey (klS k) z = match T k with | some v => .held v | none => z
  sh : ∀ k v, T k = some v → SetV v
/-- A map: nil, or such a block. -/
def TabV (w : World) (mv : Value) (n : Nat) (T : ByteArray → Option Value) : Prop :=
  (mv = .map none ∧ ∀ k, T k = none) ∨ ∃ b D, mv = .map (some b) ∧ TabD w b n D T
theorem TabD.has {w : World} {b n : Nat} {D : DataW Value} {T : ByteArray → Option Value} (h : TabD w b n D T) (k : ByteArray) : Maps.has D (klS k) = (T k).isSome := by
  cases ht : T k with
  | none => exact has_false_of_atKey (fun z => by rw [h.at_, ht])
  | some v => exact has_true_of_atKey (y := .held v) (fun z => by rw [h.at_, ht])
theorem ownsMap_of {w w' : World} {P : Program} {k : TypeId} {R : Value → Option (DataW Value × List MemPlace)} {b n : Nat} {D : DataW Value} (h : w.ownsMap P k R b n D) (hb : w'.heap[b]? = w.heap[b]?) : w'.ownsMap P k R b n D := by
  obtain ⟨es, clock, h1, h2⟩ := h
  exact ⟨es, clock, hb.trans h1, h2⟩
theorem TabD.of {w w' : World} {b n : Nat} {D : DataW Value} {T : ByteArray → Option Value} (h : TabD w b n D T) (hb : w'.heap[b]? = w.heap[b]?) : TabD w' b n D T := ⟨ownsMap_of h.own hb, h.at_, h.sh⟩
theorem TabD.tr {Y : Nat → Prop} {w w' : World} {b n : Nat} {D : DataW Value} {T : ByteArray → Option Value} (h : TabD w b n D T) (t : Tr Y w w') (hz : ¬ Y b) : TabD w' b n D T := h.of (t.block b h.own.lt hz)
theorem TabD.below {w w' : World} {b n : Nat} {D : DataW Value} {T : ByteArray → Option Value} (h : TabD w b n D T) (t : Below w.heap.size w w') : TabD w' b n D T := h.of (t.block b h.own.lt)
/-- The block of a map. -/
def mapBlock : Value → Option Nat
  | .map o => o
  | _ => none
def InM (Z : Nat → Prop) (v : Value) : Prop := ∀ k, mapBlock v = some k → Z k
theorem TabV.tr {Y : Nat → Prop} {w w' : World} {mv : Value} {n : Nat} {T : ByteArray → Option Value} (h : TabV w mv n T) (t : Tr Y w w') (hz : InM (fun k => ¬ Y k) mv) : TabV w' mv n T := by
  rcases h with h | ⟨b, D, rfl, h⟩
  · exact .inl h
  · exact .inr ⟨b, D, rfl, h.tr t (hz b rfl)⟩
theorem TabV.below {w w' : World} {mv : Value} {n : Nat} {T : ByteArray → Option Value} (h : TabV w mv n T) (t : Below w.heap.size w w') : TabV w' mv n T := by
  rcases h with h | ⟨b, D, rfl, h⟩
  · exact .inl h
  · exact .inr ⟨b, D, rfl, h.below t⟩
theorem TabV.mono {w : World} {mv : Value} {n m : Nat} {T : ByteArray → Option Value} (h : TabV w mv n T) (hm : n ≤ m) : TabV w mv m T := by
  rcases h with h | ⟨b, D, rfl, h⟩
  · exact .inl h
  · exact .inr ⟨b, D, rfl, h.own.mono hm, h.at_, h.sh⟩
/-- A function with another value at one place. -/
def upd {α : Type} (T : ByteArray → α) (k : ByteArray) (v : α) : ByteArray → α := fun x => if x = k then v else T x
theorem upd_same {α : Type} (T : ByteArray → α) (k : ByteArray) (v : α) : upd T k v k = v := by simp [upd]
theorem upd_other {α : Type} (T : ByteArray → α) {k x : ByteArray} (v : α) (h : x ≠ k) : upd T k v x = T x := by simp [upd, h]
theorem TabD.put {w w' : World} {b n : Nat} {D : DataW Value} {T : ByteArray → Option Value} (h : TabD w b n D T) (k : ByteArray) (v : Value) (hv : SetV v) (ho : w'.ownsMap Tryz.prog 9 RV b (n + 1) (D.put (klS k) (.held v))) :
    TabD w' b (n + 1) (D.put (klS k) (.held v)) (upd T k (some v)) := by
  refine ⟨ho, fun x z => ?_, fun x u hu => ?_⟩
  · by_cases hx : x = k
    · subst hx
      rw [upd_same, atKey_put_same h.own.isMap (by simp [klS, WideAt.IsKeyLit])]
    · rw [upd_other _ _ hx, atKey_put_other (fun e => hx (klS_inj e)), h.at_]
  · by_cases hx : x = k
    · subst hx
      rw [upd_same] at hu
      cases hu; exact hv
    · rw [upd_other _ _ hx] at hu
      exact h.sh x u hu
theorem TabD.del {w w' : World} {b n : Nat} {D : DataW Value} {T : ByteArray → Option Value} (h : TabD w b n D T) (k : ByteArray) (ho : w'.ownsMap Tryz.prog 9 RV b n (D.del (klS k))) :
    TabD w' b n (D.del (klS k)) (upd T k none) := by
  refine ⟨ho, fun x z => ?_, fun x u hu => ?_⟩
  · by_cases hx : x = k
    · subst hx
      rw [upd_same, atKey_del_same]
    · rw [upd_other _ _ hx, atKey_del_other (fun e => hx (klS_inj e)), h.at_]
  · by_cases hx : x = k
    · subst hx
      rw [upd_same] at hu; cases hu
    · rw [upd_other _ _ hx] at hu
      exact h.sh x u hu
/-- The keys that the sort gives. -/
theorem TabD.keys {w : World} {b n : Nat} {D : DataW Value} {T : ByteArray → Option Value} (h : TabD w b n D T) (x : ByteArray) : x.data.toList ∈ strKeys D ↔ T x ≠ none := by
  obtain ⟨es, hD, hpw, hkl⟩ := h.own.entries keyedS
  obtain ⟨es', hD', hko⟩ := h.own.keysOf
  obtain rfl : es = es' := by rw [hD] at hD'; simpa using hD'
  have hh := h.has x
  subst hD
  rw [show T x ≠ none ↔ (T x).isSome = true by cases T x <;> simp, ← hh, has_eq, List.any_eq_true]
  unfold strKeys
  rw [List.mem_map]
  constructor
  · rintro ⟨p, hp, he⟩
    refine ⟨p, hp, ?_⟩
    obtain ⟨v, hv⟩ := hko p hp
    obtain ⟨y, _, hy, _⟩ := Maps.keyOf_str Tryz.underlying9 hv
    rw [hy] at he ⊢
    have : y = x.data.toList := he
    rw [this]
    exact WideAt.sameKey_self (by simp [WideAt.IsKeyLit])
  · rintro ⟨p, hp, he⟩
    refine ⟨p, hp, ?_⟩
    rw [WideAt.sameKey_eq he]
    rfl
theorem TabD.nodup {w : World} {b n : Nat} {D : DataW Value} {T : ByteArray → Option Value} (h : TabD w b n D T) : (strKeys D).Nodup := by
  obtain ⟨es, hD, hpw, hkl⟩ := h.own.entries keyedS
  obtain ⟨es', hD', hko⟩ := h.own.keysOf
  obtain rfl : es = es' := by rw [hD] at hD'; simpa using hD'
  subst hD
  refine List.pairwise_map.2 (hpw.imp_of_mem fun {p q} hp hq hne e => hne ?_)
  obtain ⟨v, hv⟩ := hko p hp
  obtain ⟨y, _, hy, _⟩ := Maps.keyOf_str Tryz.underlying9 hv
  obtain ⟨v', hv'⟩ := hko q hq
  obtain ⟨y', _, hy', _⟩ := Maps.keyOf_str Tryz.underlying9 hv'
  rw [hy, hy'] at e ⊢
  exact congrArg _ e
theorem leB_bl {x y : List UInt8} (h : leB x y = true) : Op.bytesLess x y = true ∨ x = y := by
  have h1 : x ≤ y := by simpa [leB] using h
  rcases less_tri x y with h2 | h2 | h2
  · exact .inl h2
  · exact .inr h2
  · rw [bytesLess_eq] at h2
    have h3 : y < x := by simpa using h2
    exact absurd h3 (List.not_lt.2 h1)
def baL (l : List UInt8) : ByteArray := ⟨l.toArray⟩
theorem baL_data (k : ByteArray) : baL k.data.toList = k := by cases k; simp [baL]
theorem baL_toList (l : List UInt8) : (baL l).toList = l := by rw [Lib.toList_data]; simp [baL]
/-- What the sort of a map's keys gives: the keys, rising. -/
theorem sort_rising {ks : List (List UInt8)} {l : List (List UInt8)} (hp : ks.Perm l) (hnd : l.Nodup) :
    ∃ out : List ByteArray, (ks.mergeSort leB).map encStr = cellsX out ∧ out.length = ks.length ∧ out.Pairwise (fun a b => bl a b = true) ∧ ∀ x : ByteArray, x ∈ out ↔ x.data.toList ∈ l := by
  have tr : ∀ a b c : List UInt8, leB a b = true → leB b c = true → leB a c = true := fun a b c h1 h2 => by
    simp only [leB, decide_eq_true_eq] at *; exact List.le_trans h1 h2
  have tot : ∀ a b : List UInt8, (leB a b || leB b a) = true := fun a b => by
    simp only [leB, Bool.or_eq_true, decide_eq_true_eq]; exact List.le_total a b
  have hps : (ks.mergeSort leB).Perm l := (List.mergeSort_perm ks leB).trans hp
  have hs := List.pairwise_mergeSort tr tot ks
  have hn : (ks.mergeSort leB).Nodup := hps.nodup_iff.2 hnd
  refine ⟨(ks.mergeSort leB).map baL, ?_, by simp, ?_, fun x => ?_⟩
  · unfold cellsX
    rw [List.map_map]
    rfl
  · refine List.pairwise_map.2 ((hs.and hn).imp fun {a b} hab => ?_)
    unfold bl
    rw [baL_toList, baL_toList]
    rcases leB_bl hab.1 with h | h
    · exact h
    · exact absurd h hab.2
  · rw [List.mem_map]
    constructor
    · rintro ⟨a, ha, rfl⟩
      have : (baL a).data.toList = a := by simp [baL]
      rw [this]
      exact hps.mem_iff.1 ha
    · intro h
      exact ⟨_, hps.mem_iff.2 h, baL_data x⟩
end Go.Proofs.YtilkdeghknjjhaaGreatDoor
/- The table: Get, Delete, Put. -/
namespace Go.Proofs.YtilkdeghknjjhaaGreatDoor
open Go.RowKit M Go.Maps
set_option linter.unusedVariables false

theorem zeroSet (w : World) : (zeroValue 117).run Tryz.prog w = .ok (.agg #[.slice none 0 0, .slice none 0 0]) w := by kernel_rfl
def zSet : Value := .agg #[.slice none 0 0, .slice none 0 0]
/-- What stands by a key; else nothing's set. -/
def tget (T : ByteArray → Option Value) (k : ByteArray) : Value := match T k with | some v => v | none => zSet
theorem result_tget (tmps : Array Value) (w : World) (g : Nat) (v1 v2 : Value) (b : Bool) (h4 : tmps.getD 4 undef = .pointer (some ⟨g, 0, none⟩)) (h5 : tmps.getD 5 undef = .bool b) (hg : w.heap[g]? = some (.cells #[v1, v2] 117 (0, 0))) :
    (results Tryz.f55 tmps).run Tryz.prog w = .ok (.tuple #[.agg #[v1, v2], .bool b]) w := by
  have hl := run_loadVar_row (P := Tryz.prog) w g 117 117 #[v1, v2] (0, 0) _ hg Tryz.underlying117 rfl info38
  have h4' : tmps[4]?.getD undef = .pointer (some ⟨g, 0, none⟩) := by simpa using h4
  have h5' : tmps[5]?.getD undef = .bool b := by simpa using h5
  simp [results, Tryz.results55, h4', h5', asAddr, hl]

/-- A look-up in a table's map, and the world as it was. -/
theorem look_tab (mv : Value) (n : Nat) (T : ByteArray → Option Value) (k : ByteArray) (w : World) (h : TabV w mv n T) (hk : k.size ≤ maxLen) :
    (Instr.lookup 82 mv (.string k) true).run Tryz.prog w = .ok (.tuple #[tget T k, .bool (T k).isSome]) w := by
  rcases h with ⟨rfl, hT⟩ | ⟨b, D, rfl, h⟩
  · have := Maps.look_nil (w := w) true keyedS Tryz.underlying82 (zeroSet w) (klS_key k hk)
    rw [this]
    unfold tget
    rw [hT]
    rfl
  · obtain ⟨v, ps, hrun, hv⟩ := h.own.look_ok keyedS Tryz.underlying82 (zeroSet w) (zd := .held zSet) (zp := []) rfl (klS_key k hk)
    rw [hrun, h.has k]
    rw [h.at_ k] at hv
    unfold tget
    cases ht : T k with
    | none => rw [ht] at hv; simp at hv; rw [hv.1]
    | some u => rw [ht] at hv; simp at hv; rw [hv.1]
theorem tget_sh {w : World} {mv : Value} {n : Nat} {T : ByteArray → Option Value} (h : TabV w mv n T) (k : ByteArray) : SetV (tget T k) := by
  unfold tget
  cases ht : T k with
  | none => exact ⟨none, 0, 0, none, 0, 0, rfl⟩
  | some u =>
    rcases h with ⟨rfl, hT⟩ | ⟨b, D, rfl, h⟩
    · rw [hT] at ht; cases ht
    · exact h.sh k u ht

set_option maxRecDepth 20000 in
set_option maxHeartbeats 800000 in
theorem tGet_any (p o : Nat) (mv : Value) (n : Nat) (T : ByteArray → Option Value) (k : ByteArray) (w : World) (hc : w.cell? ⟨p, o, none⟩ = some mv) (h : TabV w mv n T) (hk : k.size ≤ maxLen) :
    Calls Tryz.prog 55 #[.pointer (some ⟨p, o, none⟩), .string k] w fun e w' => e = .returned (.tuple #[tget T k, .bool (T k).isSome]) ∧ Below w.heap.size w w' := by
  obtain ⟨W, hW, HR, HB, hc1, HL⟩ : ∃ W, (w.alloc (.cells #[.slice none 0 0, .slice none 0 0] 117)) = W ∧ Hid (W.heap[w.heap.size]? = some (.cells nilSet 117 (0, 0))) ∧ Hid (Below w.heap.size w W) ∧ W.cell? ⟨p, o, none⟩ = some mv ∧
      (Instr.lookup 82 mv (.string k) true).run Tryz.prog W = .ok (.tuple #[tget T k, .bool (T k).isSome]) W :=
    ⟨_, rfl, heap_alloc_new w _, (Below.refl _ _).alloc (Nat.le_refl _) _, cell_later ((Below.refl _ _).alloc (Nat.le_refl _) _) hc, look_tab mv n T k _ (h.below ((Below.refl _ _).alloc (Nat.le_refl _) _)) hk⟩
  obtain ⟨a, l, c, a', l', c', hsv⟩ := tget_sh h k
  rw [hsv] at HL ⊢
  obtain ⟨t, ht⟩ : ∃ t, (T k).isSome = t := ⟨_, rfl⟩
  rw [ht] at HL ⊢
  clear h hc hsv ht
  go_enter Tryz.func55, Tryz.ntmps55
  go_upto_region 1 with (fail)
  clear hW
  have HR2 : Hid (∀ o, (W.alloc o).heap[w.heap.size]? = some (.cells nilSet 117 (0, 0))) := fun o => heap_later ((Below.refl _ W).alloc (Nat.le_refl _) o) HR.out
  have HB2 : Hid (∀ o, Below w.heap.size w (W.alloc o)) := fun o => HB.out.alloc HB.out.size o
  go_wp2_with (first
    | (refine wpList_store_row rfl 117 _ _ rfl w.heap.size #[.slice a l c, .slice a' l' c'] rfl rfl 117 nilSet (HR2.out _) info38 rfl (one_two _ _ _ _ _ _) ?_))
  refine bodyPost_ret (result_tget _ _ w.heap.size _ _ t rfl rfl (setRow_heap _ _ _ _ _ _ (HR2.out _))) rfl ⟨rfl, below_setRow (HB2.out _) (Nat.le_refl _) _⟩

set_option maxRecDepth 20000 in
set_option maxHeartbeats 800000 in
/-- A key is taken away. -/
theorem tDelete_any (p o : Nat) (mv : Value) (n : Nat) (T : ByteArray → Option Value) (k : ByteArray) (w : World) (hc : w.cell? ⟨p, o, none⟩ = some mv) (h : TabV w mv n T) (hk : k.size ≤ maxLen) :
    Calls Tryz.prog 156 #[.pointer (some ⟨p, o, none⟩), .string k] w fun e w' => e = .returned (.tuple #[]) ∧ TabV w' mv n (upd T k none) ∧ Tr (fun b => mapBlock mv = some b) w w' := by
  rcases h with ⟨rfl, hT⟩ | ⟨b, D, rfl, h⟩
  · have HT : Hid (TabV w (.map none) n (upd T k none)) := .inl ⟨rfl, fun x => by unfold upd; split; rfl; exact hT x⟩
    have hd := fun ty => Maps.drop_nil (w := w) keyedS Tryz.underlying82 (klS_key k hk) ty
    clear hT
    go_enter Tryz.func156, Tryz.ntmps156
    go_wp2
    go_end0
    exact ⟨rfl, HT.out, Tr.refl _ _⟩
  · have HD : Hid (∀ w', w'.ownsMap Tryz.prog 9 RV b n (D.del (klS k)) → TabV w' (.map (some b)) n (upd T k none)) := fun w' ho => .inr ⟨b, _, rfl, h.del k ho⟩
    have hown := h.own
    have hkey := klS_key k hk
    clear h hk
    go_enter Tryz.func156, Tryz.ntmps156
    go_wp2_with (first
      | (at_delete; refine wpList_delete_own _ rfl _ _ 82 9 rfl 117 keyedS Tryz.underlying82 _ b n D rfl hown _ _ rfl hkey ?_; intro w1 hown1 hturn1))
    go_end0
    have hg := hturn1.grown
    exact ⟨rfl, HD.out w1 hown1, ⟨hg.os, hg.tape, hg.output, hg.size, fun i hi hz => hg.block i hi (fun e => hz e.symm)⟩⟩
end Go.Proofs.YtilkdeghknjjhaaGreatDoor
/- The table: Put. -/
namespace Go.Proofs.YtilkdeghknjjhaaGreatDoor
open Go.RowKit M Go.Maps
set_option linter.unusedVariables false

theorem set_same {r : Array Value} {o : Nat} {v : Value} (h : r[o]? = some v) : r.setIfInBounds o v = r := by
  apply Array.ext_getElem?
  intro i
  rw [Array.getElem?_setIfInBounds]
  split
  · rename_i e
    subst e
    split
    · exact h.symm
    · rename_i hn
      rw [Array.getElem?_eq_none (by omega)] at h; cases h
  · rfl
theorem heap_alloc_old' (w : World) (o : Obj) (i : Nat) (h : i < w.heap.size) : (w.alloc o).heap[i]? = w.heap[i]? := ((Below.refl _ w).alloc (Nat.le_refl _) o).block i h
/-- What Put does: the map's place, and the map. -/
def TPutEnd (w : World) (p o : Nat) (row : Array Value) (ty : TypeId) (mv : Value) (n : Nat) (T : ByteArray → Option Value) (w' : World) : Prop :=
  ∃ mv', w'.heap[p]? = some (.cells (row.setIfInBounds o mv') ty (0, 0)) ∧ TabV w' mv' n T ∧ Tr (fun b => b = p ∨ mapBlock mv = some b) w w' ∧ (mv' = mv ∨ ∃ b, mv' = .map (some b) ∧ w.heap.size ≤ b ∧ b < w'.heap.size)

set_option maxRecDepth 20000 in
set_option maxHeartbeats 1600000 in
theorem tPut_any (p o : Nat) (row : Array Value) (ty : TypeId) (mv : Value) (n : Nat) (T : ByteArray → Option Value) (k : ByteArray) (v : Value) (w : World) (hp : w.heap[p]? = some (.cells row ty (0, 0))) (ho : row[o]? = some mv) (h : TabV w mv n T) (hk : k.size ≤ maxLen) (hn : n < 1000000000000) (hsv : SetV v) :
    Calls Tryz.prog 149 #[.pointer (some ⟨p, o, none⟩), .string k, v] w fun e w' => e = .returned (.tuple #[]) ∧ TPutEnd w p o row ty mv (n + 1) (upd T k (some v)) w' := by
  obtain ⟨a, l, c, a', l', c', rfl⟩ := hsv
  have hSV : SetV (.agg #[.slice a l c, .slice a' l' c']) := ⟨_, _, _, _, _, _, rfl⟩
  obtain ⟨W, hW, HB, HP, HV, HTb⟩ : ∃ W, (w.alloc (.cells #[.slice a l c, .slice a' l' c'] 117)) = W ∧ Hid (Below w.heap.size w W) ∧ Hid (W.heap[p]? = some (.cells row ty (0, 0))) ∧ Hid (W.heap[w.heap.size]? = some (.cells #[.slice a l c, .slice a' l' c'] 117 (0, 0))) ∧ Hid (TabV W mv n T) :=
    ⟨_, rfl, (Below.refl _ _).alloc (Nat.le_refl _) _, heap_later ((Below.refl _ _).alloc (Nat.le_refl _) _) hp, heap_alloc_new w _, h.below ((Below.refl _ _).alloc (Nat.le_refl _) _)⟩
  have hc : W.cell? ⟨p, o, none⟩ = some mv := by rw [cell_of_row _ _ _ _ _ _ HP.out]; exact ho
  have fz : ∀ i, W.frozen? ⟨p, i, none⟩ = false := fun i => frozen_of_row _ _ _ _ _ HP.out
  have hmo := @run_makeMap Tryz.prog
  have hnil := fun (r : Option Nat) (w : World) => run_eql_map_nil (P := Tryz.prog) w 82 _ _ r Tryz.underlying82
  have hpw : p < w.heap.size := (Array.getElem?_eq_some_iff.1 hp).1
  rcases HTb.out with ⟨rfl, hT⟩ | ⟨b, D, rfl, hD⟩
  · obtain ⟨W2, hW2, HW2⟩ : ∃ W2, ((W.alloc (.map #[] 0)).setCell ⟨p, o, none⟩ (.map (some W.heap.size))) = W2 ∧ Hid (W2 = (W.alloc (.map #[] 0)).setCell ⟨p, o, none⟩ (.map (some W.heap.size))) := ⟨_, rfl, rfl⟩
    have hca : ∀ o', (W.alloc o').cell? ⟨p, o, none⟩ = some (.map none) := fun o' => cell_later ((Below.refl _ W).alloc (Nat.le_refl _) o') hc
    have fza : ∀ o' i, (W.alloc o').frozen? ⟨p, i, none⟩ = false := fun o' i => frozen_of_row _ _ _ _ _ (heap_later ((Below.refl _ W).alloc (Nat.le_refl _) o') HP.out)
    have hne : p ≠ W.heap.size := by have := HB.out.size; omega
    clear HTb h
    go_enter Tryz.func149, Tryz.ntmps149
    go_upto_region 1 with (fail)
    clear hW
    go_upto_region 3 with (fail)
    have hrow2 : W2.heap[p]? = some (.cells (row.setIfInBounds o (.map (some W.heap.size))) ty (0, 0)) := by
      rw [HW2.out]
      exact heap_setCell_self (heap_later ((Below.refl _ W).alloc (Nat.le_refl _) _) HP.out) o _
    have ho' : o < row.size := (Array.getElem?_eq_some_iff.1 ho).1
    have hpw2 : p ≠ w.heap.size := by omega
    have hv2 : W2.heap[w.heap.size]? = some (.cells #[.slice a l c, .slice a' l' c'] 117 (0, 0)) := by
      rw [HW2.out, Below.heap_setCell _ _ _ _ (fun e => hpw2 e.symm)]
      exact heap_later ((Below.refl _ W).alloc (Nat.le_refl _) _) HV.out
    have hown2 : W2.ownsMap Tryz.prog 9 RV W.heap.size 0 (.map []) := by
      rw [HW2.out]
      exact World.ownsMap.setCell (World.ownsMap_made W Tryz.prog 9 RV) (a := ⟨p, o, none⟩) (fun e => hne e.symm) _
    have hD2 : TabD W2 W.heap.size 0 (.map []) T := ⟨hown2, fun x z => by rw [hT x]; rfl, fun x u hu => by rw [hT x] at hu; cases hu⟩
    obtain ⟨w', hrun, hown', hturn⟩ := World.ownsMap.store (w := W2.drew) (t := 82) (e := 117) (d := .held (.agg #[.slice a l c, .slice a' l' c'])) (ps := []) hown2.drew keyedS Tryz.underlying82 (by decide) (klS_key k hk) rfl
    have d0 : W2.cell? ⟨p, o, none⟩ = some (.map (some W.heap.size)) := by rw [cell_of_row _ _ _ _ _ _ hrow2]; simp [ho']
    have d1 : W2.cell? ⟨w.heap.size, 0, none⟩ = some (.slice a l c) := by rw [cell_of_row _ _ _ _ _ _ hv2]; rfl
    have d2 : W2.cell? ⟨w.heap.size, 1, none⟩ = some (.slice a' l' c') := by rw [cell_of_row _ _ _ _ _ _ hv2]; rfl
    have HE : Hid (TPutEnd w p o row ty (.map none) (n + 1) (upd T k (some (.agg #[.slice a l c, .slice a' l' c']))) w') := by
      have hg := hturn.grown
      have hsz : w.heap.size ≤ W.heap.size := HB.out.size
      have hs2 : W2.heap.size = W.heap.size + 1 := by rw [HW2.out]; simp [World.setCell]
      refine ⟨.map (some W.heap.size), ?_, ?_, ?_, .inr ⟨_, rfl, hsz, ?_⟩⟩
      · rw [hg.block p (by show p < W2.heap.size; omega) (fun e => hne (by injection e))]
        exact hrow2
      · exact TabV.mono (.inr ⟨_, _, rfl, hD2.put k _ hSV hown'⟩) (by omega)
      · refine ⟨hg.os.trans (by rw [HW2.out]; exact HB.out.os), hg.tape.trans (by rw [HW2.out]; exact HB.out.tape), hg.output.trans (by rw [HW2.out]; exact HB.out.output), ?_, fun i hi hz => ?_⟩
        · have := hg.size; have h5 : W2.heap.size ≤ w'.heap.size := this; omega
        · rw [hg.block i (by show i < W2.heap.size; omega) (fun e => by injection e; omega)]
          show W2.heap[i]? = _
          rw [HW2.out, Below.heap_setCell _ _ _ _ (fun e => hz (.inl e))]
          exact (heap_alloc_old' W _ i (by omega)).trans (HB.out.block i hi)
      · have := hg.size; have h5 : W2.heap.size ≤ w'.heap.size := this; omega
    clear hc fz hca fza hpw hrow2 ho' hpw2 hv2 hown2 hD2 hT hown' hturn HP HV HW2 hmo hnil hne hp ho hk hn hSV HB
    go_region
    all_goals (go_wp2; go_end0; exact ⟨rfl, HE.out⟩)
  · have HTb2 : Hid (TabD W b n D T) := hD
    obtain ⟨w', hrun, hown', hturn⟩ := World.ownsMap.store (w := W.drew) (t := 82) (e := 117) (d := .held (.agg #[.slice a l c, .slice a' l' c'])) (ps := []) hD.own.drew keyedS Tryz.underlying82 (by unfold maxLen; omega) (klS_key k hk) rfl
    have d1 : W.cell? ⟨w.heap.size, 0, none⟩ = some (.slice a l c) := by rw [cell_of_row _ _ _ _ _ _ HV.out]; rfl
    have d2 : W.cell? ⟨w.heap.size, 1, none⟩ = some (.slice a' l' c') := by rw [cell_of_row _ _ _ _ _ _ HV.out]; rfl
    have hbp : b ≠ p := fun e => by
      subst e
      obtain ⟨es, ck, hh, _⟩ := hD.own
      rw [HP.out] at hh; cases hh
    have HE : Hid (TPutEnd w p o row ty (.map (some b)) (n + 1) (upd T k (some (.agg #[.slice a l c, .slice a' l' c']))) w') := by
      have hg := hturn.grown
      have hsz : w.heap.size ≤ W.heap.size := HB.out.size
      have hgs : W.heap.size ≤ w'.heap.size := hg.size
      refine ⟨.map (some b), ?_, .inr ⟨_, _, rfl, hD.put k _ hSV hown'⟩, ?_, .inl rfl⟩
      · rw [set_same ho, hg.block p (by show p < W.heap.size; omega) (fun e => hbp (by injection e with e; exact e.symm))]
        exact HP.out
      · refine ⟨hg.os.trans HB.out.os, hg.tape.trans HB.out.tape, hg.output.trans HB.out.output, by omega, fun i hi hz => ?_⟩
        rw [hg.block i (by show i < W.heap.size; omega) (fun e => hz (.inr (by injection e with e; rw [e]; rfl)))]
        exact HB.out.block i hi
    clear fz hpw ho hp hD HTb HTb2 h hown' hturn HP HV hmo hbp hk hn hSV HB
    go_enter Tryz.func149, Tryz.ntmps149
    go_upto_region 1 with (fail)
    clear hW
    go_upto_region 3 with (fail)
    go_region
    all_goals (go_wp2; go_end0; exact ⟨rfl, HE.out⟩)
end Go.Proofs.YtilkdeghknjjhaaGreatDoor
/- The table: Keys. -/
namespace Go.Proofs.YtilkdeghknjjhaaGreatDoor
open Go.RowKit M Go.Maps Go.Sort Go.Shelf
set_option linter.unusedVariables false

/-- The keys of a table, rising. -/
def TKeys (T : ByteArray → Option Value) (ks : List ByteArray) : Prop := ks.Pairwise (fun a b => bl a b = true) ∧ ∀ x, x ∈ ks ↔ T x ≠ none

set_option maxHeartbeats 1000000 in
theorem tKeys_any (p o : Nat) (mv : Value) (n : Nat) (T : ByteArray → Option Value) (w : World) (hc : w.cell? ⟨p, o, none⟩ = some mv) (h : TabV w mv n T) (hn : n ≤ 1000000000) :
    Calls Tryz.prog 52 #[.pointer (some ⟨p, o, none⟩)] w fun e w' => ∃ v ks, e = .returned v ∧ TKeys T ks ∧ OwnX w' w.heap.size v ks ∧ Below w.heap.size w w' := by
  refine (callsIn_wide (n := 6)).1 ?_
  have hfK : Fence.wide.fn 97 := trivial
  have hfS : Fence.wide.fn 96 := trivial
  rcases h with ⟨rfl, hT⟩ | ⟨b, D, rfl, h⟩
  · have HT : Hid (TKeys T []) := ⟨List.Pairwise.nil, fun x => by rw [hT x]; simp⟩
    clear hT
    refine callsIn_of_wp Tryz.func52 rfl trivial ?_ rfl
    simp only [Tryz.ntmps52, List.size_toArray, List.length_cons, List.length_nil, Nat.reduceAdd, Nat.reduceSub, Array.replicate_succ, Array.replicate_zero, List.push_toArray, List.append_toArray, List.nil_append, List.cons_append]
    gi_wp2_with (first
      | (gi_at_call 97; refine (Tryz.maps_Keys_97 _ _).mono ?_; rintro e w' ⟨rfl, rfl⟩)
      | (gi_at_call 96; refine (Tryz.slices_Sorted_keys_nil_96_97 w).mono ?_; rintro e w' ⟨v, ss, rfl, hS, hrow, hnil, hb⟩))
    go_ret
    obtain rfl := hnil.2 hS
    exact ⟨_, [], rfl, HT.out, World.ownsRow_nil _ _ _ _, ((Below.refl _ w).alloc (Nat.le_refl _) _).trans (hb.mono (by simp))⟩
  · have hsz : Maps.size D ≤ 1000000000 := Nat.le_trans h.own.size_le hn
    have hown := h.own
    have HT : Hid (TabD w b n D T) := h
    clear h
    refine callsIn_of_wp Tryz.func52 rfl trivial ?_ rfl
    simp only [Tryz.ntmps52, List.size_toArray, List.length_cons, List.length_nil, Nat.reduceAdd, Nat.reduceSub, Array.replicate_succ, Array.replicate_zero, List.push_toArray, List.append_toArray, List.nil_append, List.cons_append]
    gi_wp2_with (first
      | (gi_at_call 97; refine (Tryz.maps_Keys_97 _ _).mono ?_; rintro e w' ⟨rfl, rfl⟩)
      | (gi_at_call 96; refine (Tryz.slices_Sorted_keys_96_97 b n D RV w hown (by unfold maxLen; omega) (by omega)).mono ?_; rintro e w' ⟨v, ss, rfl, hS, hrow, hnil, hb⟩))
    go_ret
    obtain ⟨ks, h1, h2, h3, h4⟩ := sort_rising hS HT.out.nodup
    refine ⟨_, ks, rfl, ⟨h3, fun x => (h4 x).trans (HT.out.keys x)⟩, ?_, ((Below.refl _ w).alloc (Nat.le_refl _) _).trans (hb.mono (by simp))⟩
    unfold OwnX
    rw [h2, ← h1]
    exact ownsRow_base_a hrow (by simp)
end Go.Proofs.YtilkdeghknjjhaaGreatDoor
