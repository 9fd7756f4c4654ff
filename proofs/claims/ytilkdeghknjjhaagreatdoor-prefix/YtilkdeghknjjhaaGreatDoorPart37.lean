/- The document's Delete. -/
import Derived.Test.YtilkdeghknjjhaaGreatDoorPart35
import Derived.Test.YtilkdeghknjjhaaGreatDoorPart23
import Derived.Test.YtilkdeghknjjhaaGreatDoorPart36
import Derived.Test.YtilkdeghknjjhaaGreatDoorPart32
import Derived.Deep.RegionHeld3
namespace Go.Proofs.YtilkdeghknjjhaaGreatDoor
open Go.RowKit M
set_option linter.unusedVariables false

theorem result_md (tmps : Array Value) (w : World) (g : Nat) (v1 v2 v3 v4 : Value) (b : Bool) (n : Int) (h8 : tmps.getD 8 undef = .pointer (some ⟨g, 0, none⟩)) (h9 : tmps.getD 9 undef = .bool b) (h10 : tmps.getD 10 undef = .int .i64 n) (hg : w.heap[g]? = some (.cells #[v1, v2, v3, v4] 191 (0, 0))) :
    (results Tryz.f114 tmps).run Tryz.prog w = .ok (.tuple #[.agg #[v1, v2, v3, v4], .bool b, .int .i64 n]) w := by
  have hl := run_loadVar_row (P := Tryz.prog) w g 191 191 #[v1, v2, v3, v4] (0, 0) _ hg Tryz.underlying191 rfl info169
  have h8' : tmps[8]?.getD undef = .pointer (some ⟨g, 0, none⟩) := by simpa using h8
  have h9' : tmps[9]?.getD undef = .bool b := by simpa using h9
  have h10' : tmps[10]?.getD undef = .int .i64 n := by simpa using h10
  simp [results, Tryz.results114, h8', h9', h10', asAddr, hl]

/-- All dots are dots. -/
def Dots (l : List Sb) : Prop := ∀ x ∈ l, Dot x.n x.c
theorem SetOK.dots {c : List (Int × Int)} {l : List Sb} (h : SetOK c l) : Dots l := by
  intro x hx
  obtain ⟨i, hi, rfl⟩ := List.getElem_of_mem hx
  have := (h.2.2 i hi).1
  rwa [sb_get l i hi] at this
theorem Dots.un {c : List (Int × Int)} {l : List Sb} (h : Dots l) : Dots (un c l) := fun x hx => h x (List.mem_filter.1 hx).1
theorem upd_dots {sc c : List (Int × Int)} {l : List Sb} {n k : Int} {s : ByteArray} {C : List (Int × Int)} {L : List Sb} {e : Int} (h : UpR sc c l n k s C L e) : Dots L := by
  rcases h with ⟨h1, rfl, rfl, rfl⟩ | ⟨h1, h2, rfl, rfl, rfl⟩ | ⟨h1, h2, h3, rfl, rfl, rfl⟩ | ⟨h1, h2, h3, p, hp, rfl, rfl, rfl⟩
  · intro x hx; simp at hx
  · intro x hx; simp at hx
  · intro x hx; simp at hx
  · intro x hx
    unfold put at hx
    have hd := h1.1.dots.un (c := c)
    rcases List.mem_append.1 hx with h | h
    · exact hd x (List.mem_of_mem_take h)
    · rcases List.mem_cons.1 h with rfl | h
      · exact h1.2.2.1
      · exact hd x (List.mem_of_mem_drop h)
theorem dis_dots {sc c : List (Int × Int)} {l : List Sb} {C : List (Int × Int)} {L : List Sb} {e : Int} (h : DsR sc c l C L e) : Dots L := by
  rcases h with ⟨h1, rfl, rfl, rfl⟩ | ⟨h1, h2, h3, rfl, rfl, rfl⟩ | ⟨h1, h2, h3, rfl, rfl, rfl⟩
  · intro x hx; simp at hx
  · intro x hx; simp at hx
  · exact h1.dots.un
theorem place_ex (l : List Sb) (x : Sb) (hs : l.Pairwise (fun x y => cd x y < 0)) : ∃ p, Place l x p := by
  induction l with
  | nil => exact ⟨0, by simp, fun h => by omega, fun h => by simp at h⟩
  | cons y r ih =>
    by_cases hy : cd y x < 0
    · obtain ⟨p, h1, h2, h3⟩ := ih hs.of_cons
      refine ⟨p + 1, by simpa using h1, fun _ => ?_, fun h => ?_⟩
      · cases p with
        | zero => exact hy
        | succ q => have := h2 (by omega); simpa [sb] using this
      · have := h3 (by simpa using h); simpa [sb] using this
    · exact ⟨0, by simp, fun h => by omega, fun _ => by show 0 ≤ cd y x; omega⟩
theorem upd_ex (sc c : List (Int × Int)) (l : List Sb) (n k : Int) (s : ByteArray) : ∃ C L e, UpR sc c l n k s C L e := by
  by_cases h1 : UpOK sc c l n k s
  · by_cases h2 : 6 < (un c l).length + 1
    · exact ⟨_, _, _, .inr (.inl ⟨h1, h2, rfl, rfl, rfl⟩)⟩
    · by_cases h3 : 8 < (jn [sc, c, [(n, k)]]).length
      · exact ⟨_, _, _, .inr (.inr (.inl ⟨h1, by omega, h3, rfl, rfl, rfl⟩))⟩
      · obtain ⟨p, hp⟩ := place_ex (un c l) ⟨n, k, s⟩ (un_pw (UpS.pw h1.1.2.2))
        exact ⟨_, _, _, .inr (.inr (.inr ⟨h1, by omega, by omega, p, hp, rfl, rfl, rfl⟩))⟩
  · exact ⟨_, _, _, .inl ⟨h1, rfl, rfl, rfl⟩⟩
theorem dis_ex (sc c : List (Int × Int)) (l : List Sb) : ∃ C L e, DsR sc c l C L e := by
  by_cases h1 : SetOK sc l ∧ Clk c
  · by_cases h3 : 8 < (jn [sc, c]).length
    · exact ⟨_, _, _, .inr (.inl ⟨h1.1, h1.2, h3, rfl, rfl, rfl⟩)⟩
    · exact ⟨_, _, _, .inr (.inr ⟨h1.1, h1.2, by omega, rfl, rfl, rfl⟩)⟩
  · exact ⟨_, _, _, .inl ⟨h1, rfl, rfl, rfl⟩⟩
theorem outM_dots (node : Int) (S : Se) (i : Nat) (x : Mu) : Dots (outM node S i x).2.1 := by
  unfold outM
  split
  · obtain ⟨C, L, e, h⟩ := dis_ex S.C x.c S.L
    rw [disF_eq h]; exact dis_dots h
  · obtain ⟨C, L, e, h⟩ := upd_ex S.C x.c S.L node ((i : Int) + 1) x.v
    rw [updF_eq h]; exact upd_dots h
theorem ofTo_dots (node : Int) (H : List Mu) (key : ByteArray) : ∀ i, Dots (ofTo node H key i).L
  | 0 => fun x hx => by simp [ofTo, Se.nil] at hx
  | i + 1 => by
    unfold ofTo
    split
    · unfold stepM
      split
      · exact fun x hx => by simp [Se.nil] at hx
      · exact outM_dots _ _ _ _
    · exact ofTo_dots node H key i

/-- Has the clock seen one of the first values? -/
def seenTo (c : List (Int × Int)) (l : List Sb) : Nat → Bool
  | 0 => false
  | k + 1 => seenTo c l k || decide ((sb l k).c ≤ cS c (sb l k).n)
/-- What Delete answers: some, and the number. -/
noncomputable def delE (node : Int) (H : List Mu) (k t : ByteArray) (ro : Bool) : Bool × Int :=
  open Classical in if keyOK k = false then (false, 1) else if ¬ CtxOK node H.length t then (false, 2) else if ro = true then (false, 4) else if seenTo (clkT t) (ofM node H k).L (ofM node H k).L.length = false then (false, 0) else (true, (disF (ofM node H k).C (clkT t) (ofM node H k).L).2.2)
def DelEnd (E : Bool × Int) (k t : ByteArray) (B : Nat) (e : Ending) (w' : World) : Prop :=
  (¬ (E = (true, 0)) ∧ ∃ a, e = .returned (.tuple #[.agg a, .bool E.1, .int .i64 E.2])) ∨
  (E = (true, 0) ∧ ∃ c, e = .returned (.tuple #[.agg #[.bool true, .string k, .string ⟨#[]⟩, c], .bool true, .int .i64 0]) ∧ w'.ownsRow B 183 2 c (clkT t).length (cellsE (clkT t)))
end Go.Proofs.YtilkdeghknjjhaaGreatDoor
/- The document's Delete: the walk. -/
namespace Go.Proofs.YtilkdeghknjjhaaGreatDoor
open Go.RowKit M
set_option linter.unusedVariables false

set_option maxRecDepth 20000 in
set_option maxHeartbeats 3200000 in
theorem refDelete_any (Z : Nat → Prop) (p : Nat) (node : Int) (L : List MuV) (vh : Value) (k t : ByteArray) (ro : Bool) (w : World) (h : ModIn Z w p node L vh) (hl : L.length ≤ 1000000000) (hn0 : 0 ≤ node) (hn1 : node ≤ 15) (ht : t.size ≤ maxLen) :
    Calls Tryz.prog 114 #[.pointer (some ⟨p, 0, none⟩), .string k, .string t, .bool ro] w fun e w' => DelEnd (delE node (L.map MuV.x) k t ro) k t w.heap.size e w' ∧ Below w.heap.size w w' := by
  obtain ⟨E, hE⟩ : ∃ E, delE node (L.map MuV.x) k t ro = E := ⟨_, rfl⟩
  have hlm : (L.map MuV.x).length = L.length := by simp
  have hOf := fun w' hb' => Of_any Z p node L vh k w' (h.below (w := w) hb') hl
  have hdots := ofTo_dots node (L.map MuV.x) k (L.map MuV.x).length
  change Dots (ofM node (L.map MuV.x) k).L at hdots
  have HE1 : Hid (keyOK k = false → E = (false, 1)) := fun h => by rw [← hE]; unfold delE; rw [if_pos h]
  have HE2 : Hid (keyOK k = true → ¬ CtxOK node L.length t → E = (false, 2)) := fun h h2 => by rw [← hE]; unfold delE; rw [if_neg (by rw [h]; simp), if_pos (by rw [hlm]; exact h2)]
  have HE4 : Hid (keyOK k = true → CtxOK node L.length t → ro = true → E = (false, 4)) := fun h h2 h3 => by rw [← hE]; unfold delE; rw [if_neg (by rw [h]; simp), if_neg (by rw [hlm]; exact not_not_intro h2), if_pos h3]
  have HE0 : Hid (keyOK k = true → CtxOK node L.length t → ro = false → E = if seenTo (clkT t) (ofM node (L.map MuV.x) k).L (ofM node (L.map MuV.x) k).L.length = false then (false, 0) else (true, (disF (ofM node (L.map MuV.x) k).C (clkT t) (ofM node (L.map MuV.x) k).L).2.2)) := fun h h2 h3 => by
    rw [← hE]; unfold delE; rw [if_neg (by rw [h]; simp), if_neg (by rw [hlm]; exact not_not_intro h2), if_neg (by rw [h3]; simp)]
  rw [hE]
  obtain ⟨S, hS⟩ : ∃ S, ofM node (L.map MuV.x) k = S := ⟨_, rfl⟩
  rw [hS] at HE0 hdots
  have HOf : Hid (∀ w', Below w.heap.size w w' → Calls Tryz.prog 166 #[.pointer (some ⟨p, 0, none⟩), .string k] w' fun e w'' => ∃ r1 r2, e = .returned (.agg #[r1, r2]) ∧ w''.ownsRow w'.heap.size 183 2 r1 S.C.length (cellsE S.C) ∧ w''.ownsRow w'.heap.size 122 3 r2 S.L.length (cellsS S.L) ∧ Below w'.heap.size w' w'' ∧ S.C.length ≤ 8 ∧ S.L.length ≤ 6) := by
    intro w' hb'
    have := hOf w' hb'
    rw [hS] at this
    exact this
  have HCT : Hid (∀ w', Below w.heap.size w w' → Calls Tryz.prog 172 #[.pointer (some ⟨p, 0, none⟩), .string t] w' fun e w'' => CtxEnd node L.length t w'.heap.size e w'' ∧ Below w'.heap.size w' w'') :=
    fun w' hb' => refcontext_any Z p node L vh t w' (h.below (w := w) hb') hl hn0 hn1 ht
  have HDT : Hid (Dots S.L) := hdots
  clear hE hlm hOf hS h hdots
  go_enter Tryz.func114, Tryz.ntmps114
  go_upto_region 1 with (fail)
  obtain ⟨W, hW, HR, hb⟩ : ∃ W, (w.alloc (.cells muZ 191)) = W ∧ Hid (W.heap[w.heap.size]? = some (.cells muZ 191 (0, 0))) ∧ Below w.heap.size w W :=
    ⟨_, rfl, heap_alloc_new w _, (Below.refl _ _).alloc (Nat.le_refl _) _⟩
  rw [show (#[Value.bool false, Value.string { data := #[] }, Value.string { data := #[] }, Value.slice none 0 0] : Array Value) = muZ from rfl]
  rw [hW]
  clear hW
  by_cases h1 : k.size < 1
  · have h1' : (k.size : Int) < 1 := by omega
    have HP : Hid (E = (false, 1)) := HE1.out (by unfold keyOK; simp; omega)
    clear h1 HE1 HE2 HE4 HE0 HCT HOf
    go_wp2_with (first
      | (refine wpList_store_row rfl 191 _ _ rfl w.heap.size muZ rfl rfl 191 muZ HR.out info169 rfl (one_mu _ _ _ _ _ _) ?_))
    refine bodyPost_ret (result_md _ _ w.heap.size _ _ _ _ false 1 rfl rfl rfl (setRow_heap _ _ _ _ _ _ HR.out)) rfl ⟨.inl ⟨by rw [HP.out]; decide, _, by rw [HP.out]⟩, below_setRow hb (Nat.le_refl _) _⟩
  have k1 : ¬ (k.size : Int) < 1 := by omega
  by_cases h2 : 40 < k.size
  · have h2' : 40 < (k.size : Int) := by omega
    have HP : Hid (E = (false, 1)) := HE1.out (by unfold keyOK; simp; omega)
    clear h1 h2 HE1 HE2 HE4 HE0 HCT HOf
    go_wp2_with (first
      | (refine wpList_store_row rfl 191 _ _ rfl w.heap.size muZ rfl rfl 191 muZ HR.out info169 rfl (one_mu _ _ _ _ _ _) ?_))
    refine bodyPost_ret (result_md _ _ w.heap.size _ _ _ _ false 1 rfl rfl rfl (setRow_heap _ _ _ _ _ _ HR.out)) rfl ⟨.inl ⟨by rw [HP.out]; decide, _, by rw [HP.out]⟩, below_setRow hb (Nat.le_refl _) _⟩
  have k2 : ¬ 40 < (k.size : Int) := by omega
  have hok : keyOK k = true := by unfold keyOK; simp; omega
  have HE2 := HE2.out hok
  have HE4 := HE4.out hok
  have HE0 := HE0.out hok
  have hs0 := hb.size
  have HSW : Hid (w.heap.size ≤ W.heap.size) := hs0
  clear h1 h2 hok HE1
  go_wp2_with fail
  refine (HCT.out W hb).mono ?_
  rintro e w1 ⟨⟨vc, m, rfl, hc⟩, hb1⟩
  have HR1 : Hid (w1.heap[w.heap.size]? = some (.cells muZ 191 (0, 0))) := heap_later hb1 HR.out
  have hbw := hb.trans (hb1.mono hs0)
  have hsw := hbw.size
  rcases hc with ⟨hno, rfl, rfl⟩ | ⟨hyes, ho, rfl⟩
  · have HP : Hid (E = (false, 2)) := HE2 hno
    clear hno HE2 HE4 HE0 HCT HOf HR
    go_wp2_with (first
      | (refine wpList_store_row rfl 191 _ _ rfl w.heap.size muZ rfl rfl 191 muZ HR1.out info169 rfl (one_mu _ _ _ _ _ _) ?_))
    refine bodyPost_ret (result_md _ _ w.heap.size _ _ _ _ false 2 rfl rfl rfl (setRow_heap _ _ _ _ _ _ HR1.out)) rfl ⟨.inl ⟨by rw [HP.out]; decide, _, by rw [HP.out]⟩, below_setRow hbw (Nat.le_refl _) _⟩
  cases ro
  rotate_left
  · have HP : Hid (E = (false, 4)) := HE4 hyes rfl
    clear hyes HE2 HE4 HE0 HCT HOf HR ho
    go_wp2_with (first
      | (refine wpList_store_row rfl 191 _ _ rfl w.heap.size muZ rfl rfl 191 muZ HR1.out info169 rfl (one_mu _ _ _ _ _ _) ?_))
    refine bodyPost_ret (result_md _ _ w.heap.size _ _ _ _ false 4 rfl rfl rfl (setRow_heap _ _ _ _ _ _ HR1.out)) rfl ⟨.inl ⟨by rw [HP.out]; decide, _, by rw [HP.out]⟩, below_setRow hbw (Nat.le_refl _) _⟩
  have HP0 : Hid (E = if seenTo (clkT t) S.L S.L.length = false then (false, 0) else (true, (disF S.C (clkT t) S.L).2.2)) := HE0 hyes rfl
  have HO : Hid (w1.ownsRow W.heap.size 183 2 vc (clkT t).length (cellsE (clkT t))) := ho
  have HCL : Hid (Clk (clkT t)) := hyes.1.2.2
  obtain ⟨a1, q1, hv1, _⟩ := own_cells ho
  subst hv1
  have HCV : Hid (Rd w1 (.slice a1 (clkT t).length q1) (clkT t)) := Rd.own ho rfl
  obtain ⟨C, hC⟩ : ∃ C, clkT t = C := ⟨_, rfl⟩
  have HC : Hid (clkT t = C) := hC
  rw [hC] at HP0 HO HCV HCL
  rw [hC]
  clear hC HE2 HE4 HE0 HCT HR ho hyes hb hb1 hs0
  go_wp2_with fail
  refine (HOf.out w1 hbw).mono ?_
  rintro e w2 ⟨r1, r2, rfl, o1, o2, hb2, l1, l2⟩
  obtain ⟨b1, m1, hr1, _⟩ := own_cells o1
  obtain ⟨b2, m2, hr2, _, _, hA⟩ := own_cells o2
  subst hr1
  subst hr2
  clear HOf
  go_upto_region 9 with (fail)
  obtain ⟨W3, hW, hb3, t0, t1⟩ : ∃ W3, (w2.alloc (.cells #[.slice b1 S.C.length m1, .slice b2 S.L.length m2] 117)) = W3 ∧ Below w2.heap.size w2 W3 ∧ W3.cell? ⟨w2.heap.size, 0, none⟩ = some (.slice b1 S.C.length m1) ∧ W3.cell? ⟨w2.heap.size, 1, none⟩ = some (.slice b2 S.L.length m2) :=
    ⟨_, rfl, (Below.refl _ _).alloc (Nat.le_refl _) _, by simp [go_sem], by simp [go_sem]⟩
  rw [hW]
  clear hW
  have hb13 := hb2.trans (hb3.mono hb2.size)
  have hRC3 : Rd W3 (.slice a1 C.length q1) C := HCV.out.below hb13
  have HRS1 : Hid (Rd W3 (.slice b1 S.C.length m1) S.C) := (Rd.own o1 rfl).below hb3
  have HRS2 : Hid (RdS W3 (.slice b2 S.L.length m2) S.L) := (RdS.own o2 rfl).below hb3
  have HA : Hid (∀ j, j < S.L.length → ∃ g, b2 = some ⟨g, 0, none⟩ ∧ W3.cell? ⟨g, j * 3, none⟩ = some (.int .i64 (sb S.L j).n) ∧ W3.cell? ⟨g, j * 3 + 1, none⟩ = some (.int .i64 (sb S.L j).c)) := by
    intro j hj
    obtain ⟨g, ha, _, hc⟩ := hA (by omega)
    exact ⟨g, ha, cell_later hb3 (hc _ _ (cellsS_at S.L j hj).1), cell_later hb3 (hc _ _ (cellsS_at S.L j hj).2.1)⟩
  have HO3 : Hid (W3.ownsRow W.heap.size 183 2 (.slice a1 C.length q1) C.length (cellsE C)) := own_below HO.out hb13
  have HR3 : Hid (W3.heap[w.heap.size]? = some (.cells muZ 191 (0, 0))) := heap_later hb13 HR1.out
  have hbw3 := hbw.trans (hb13.mono hsw)
  have HL6 : Hid (S.L.length ≤ 6) := l2
  clear hA o1 o2 hb2 hb3 hb13 HR1 HO HCV hbw l1 l2 hsw
  go_wp2_with fail
  refine (refClock_any _ C W3 hRC3).mono ?_
  rintro e w4 ⟨ok, F, rfl, hok, hF, hb4⟩
  have HF : Hid (F = cN C) := hF (hok.2 HCL.out)
  have hsw3 := hbw3.size
  have hs4 := hb4.size
  clear hok hF hRC3
  go_upto_region 10 with (first
    | (refine wpList_store_row rfl 241 _ _ rfl w4.heap.size (arr F) rfl rfl 241 (arr zF) (alloc_lit w4 (arr zF)) (by rw [arr_size]; exact info61) (by rw [arr_size, arr_size]) (one_arr _) ?_))
  obtain ⟨w5, hw5, hr5, hb5⟩ : ∃ w5, ((w4.alloc (.cells (arr zF) 241)).setRow w4.heap.size (arr F)) = w5 ∧ w5.heap[w4.heap.size]? = some (.cells (arr F) 241 (0, 0)) ∧ Below w4.heap.size w4 w5 :=
    ⟨_, rfl, setRow_heap _ _ _ _ _ _ (alloc_lit w4 (arr zF)), below_setRow ((Below.refl _ _).alloc (Nat.le_refl _) _) (Nat.le_refl _) _⟩
  rw [zlit] at hw5
  rw [hw5]
  have HR5 : Hid (w5.heap[w4.heap.size]? = some (.cells (arr F) 241 (0, 0))) := hr5
  have HB5 : Hid (Below W3.heap.size W3 w5) := hb4.trans (hb5.mono hs4)
  have t0' := cell_later HB5.out t0
  have t1' := cell_later HB5.out t1
  have hs5 := HB5.out.size
  clear hw5 hr5 hb5 hb4 t0 t1
  go_wp2_with fail
  go_loopw [16, 17] (fun b i wr => ∃ j : Nat, j ≤ S.L.length ∧ i = .int .i64 j ∧ b = .bool (seenTo C S.L j) ∧ Below w5.heap.size w5 wr) (fun _ i _ => S.L.length - (intOf i).toNat)
  case atStart => exact ⟨0, Nat.zero_le _, rfl, rfl, Below.refl _ _⟩
  case round =>
    obtain ⟨j, hj, rfl, rfl, hbr⟩ := hrel
    have hsr := hbr.size
    have x0 := cell_later hbr t0'
    have x1 := cell_later hbr t1'
    by_cases hlt : j < S.L.length
    · have q1' : (j : Int) < (S.L.length : Int) := by omega
      have q0' : (0 : Int) ≤ (j : Int) := by omega
      have hL6 := HL6.out
      have HS : Hid (seenTo C S.L (j + 1) = (seenTo C S.L j || decide ((sb S.L j).c ≤ cS C (sb S.L j).n))) := rfl
      obtain ⟨b, hb0⟩ : ∃ b, seenTo C S.L j = b := ⟨_, rfl⟩
      rw [hb0] at HS
      rw [hb0]
      clear hb0
      cases b
      · obtain ⟨g, rfl, c0, c1⟩ := HA.out j hlt
        have y0 := cell_later hbr (cell_later HB5.out c0)
        have y1 := cell_later hbr (cell_later HB5.out c1)
        have hdj : Dot (sb S.L j).n (sb S.L j).c := HDT.out _ (by rw [sb_get _ _ hlt]; exact List.getElem_mem _)
        obtain ⟨nd, hnd⟩ := Int.eq_ofNat_of_zero_le hdj.1
        have hnd16 : nd < 16 := by have := hdj.2.1; omega
        have z0 : wr.cell? ⟨w4.heap.size, nd, none⟩ = some (.int .i64 (cS C (nd : Int))) := by
          rw [cell_of_row _ _ _ _ _ _ (heap_later hbr HR5.out), arr_at _ _ hnd16, HF.out]; rfl
        obtain ⟨x, hx⟩ : ∃ x, sb S.L j = x := ⟨_, rfl⟩
        rw [hx] at y0 y1 HS hnd
        rw [hnd] at y0 HS
        have n0 : (0 : Int) ≤ (nd : Int) := by omega
        have n1 : (nd : Int) < 16 := by omega
        clear c0 c1 hdj hx hnd
        by_cases hge : x.c ≤ cS C (nd : Int)
        · have HSV : Hid (seenTo C S.L (j + 1) = true) := by show _ = _; rw [HS.out]; simp [hge]
          have hgd : decide (x.c ≤ cS C (nd : Int)) = true := by simpa using hge
          go_wp2_with fail
          go_quiet (fail)
          go_wp2
          go_roundw
          case rel => exact ⟨j + 1, by omega, by go_num, by rw [HSV.out], below_drewN hbr nq⟩
          case measure => simp [intOf]; omega
        · have HSV : Hid (seenTo C S.L (j + 1) = false) := by show _ = _; rw [HS.out]; simp [hge]
          have hgd : decide (x.c ≤ cS C (nd : Int)) = false := by simpa using hge
          go_wp2_with fail
          go_quiet (fail)
          go_wp2
          go_roundw
          case rel => exact ⟨j + 1, by omega, by go_num, by rw [HSV.out], below_drewN hbr nq⟩
          case measure => simp [intOf]; omega
      · have HSV : Hid (seenTo C S.L (j + 1) = true) := by show _ = _; rw [HS.out]; rfl
        go_wp2_with fail
        go_quiet (fail)
        go_wp2
        go_roundw
        case rel => exact ⟨j + 1, by omega, by go_num, by rw [HSV.out], below_drewN hbr nq⟩
        case measure => simp [intOf]; omega
    · have he : j = S.L.length := by omega
      have q1' : ¬ (j : Int) < (S.L.length : Int) := by omega
      have HSV : Hid (seenTo C S.L j = seenTo C S.L S.L.length) := by show _ = _; rw [he]
      rw [HSV.out]
      obtain ⟨b, hb0⟩ : ∃ b, seenTo C S.L S.L.length = b := ⟨_, rfl⟩
      rw [hb0] at HP0
      rw [hb0]
      have hb35 : Below W3.heap.size W3 wr := HB5.out.trans (hbr.mono hs5)
      have HRr : Hid (wr.heap[w.heap.size]? = some (.cells muZ 191 (0, 0))) := heap_later hb35 HR3.out
      have hbwr := hbw3.trans (hb35.mono hsw3)
      have hswr := hbwr.size
      clear hb0 he HSV
      cases b
      · have HP : Hid (E = (false, 0)) := HP0.out
        clear HP0 hb35 hbr
        go_wp2_with (first
          | (refine wpList_store_row rfl 191 _ _ rfl w.heap.size muZ rfl rfl 191 muZ HRr.out info169 rfl (one_mu _ _ _ _ _ _) ?_))
        refine bodyPost_ret (result_md _ _ w.heap.size _ _ _ _ false 0 rfl rfl rfl (setRow_heap _ _ _ _ _ _ HRr.out)) rfl ⟨.inl ⟨by rw [HP.out]; decide, _, by rw [HP.out]⟩, below_setRow hbwr (Nat.le_refl _) _⟩
      · obtain ⟨q, hq⟩ : ∃ q, disF S.C C S.L = q := ⟨_, rfl⟩
        rw [hq] at HP0
        have HP : Hid (E = (true, q.2.2)) := HP0.out
        have HQ : Hid (disF S.C C S.L = q) := hq
        have HRCr : Hid (Rd wr (.slice a1 C.length q1) C) := (Rd.own HO3.out rfl).below hb35
        have HOr : Hid (wr.ownsRow w.heap.size 183 2 (.slice a1 C.length q1) C.length (cellsE C)) := own_base (own_below HO3.out hb35) HSW.out
        have HRS1r := HRS1.out.below hb35
        have HRS2r := HRS2.out.below hb35
        clear HP0 hq hbr
        go_wp2_with fail
        refine (refDiscard_u _ _ _ _ _ _ wr HRS1r HRS2r HRCr.out).mono ?_
        intro e w6 hq6
        have hq2 := hq6.dis
        rw [HQ.out] at hq2
        obtain ⟨s1, s2, rfl, _, _, hb6, _⟩ := hq2
        have HR6 : Hid (w6.heap[w.heap.size]? = some (.cells muZ 191 (0, 0))) := heap_later hb6 HRr.out
        have hb7 := hbwr.trans (hb6.mono hswr)
        have HO6 : Hid (w6.ownsRow w.heap.size 183 2 (.slice a1 C.length q1) (clkT t).length (cellsE (clkT t))) := by rw [HC.out]; exact own_below HOr.out hb6
        clear hb6 hq6 hb35
        go_wp2_with (first
          | (refine wpList_store_row rfl 191 _ _ rfl w.heap.size #[.bool true, .string k, .string ⟨#[]⟩, .slice a1 C.length q1] rfl rfl 191 muZ HR6.out info169 rfl (one_mu _ _ _ _ _ _) ?_))
        refine bodyPost_ret (result_md _ _ w.heap.size _ _ _ _ true q.2.2 rfl rfl rfl (setRow_heap _ _ _ _ _ _ HR6.out)) rfl ⟨?_, below_setRow hb7 (Nat.le_refl _) _⟩
        rw [HP.out]
        by_cases hq : q.2.2 = 0
        · exact .inr ⟨by rw [hq], _, by rw [hq], own_setRow HO6.out HR6.out (by decide)⟩
        · exact .inl ⟨fun h => hq (by injection h), _, rfl⟩
end Go.Proofs.YtilkdeghknjjhaaGreatDoor
/- The order of texts; the least key above another: plain facts behind the document's Keys. -/
namespace Go.Proofs.YtilkdeghknjjhaaGreatDoor
open Go.RowKit M
set_option linter.unusedVariables false

theorem less_irr : ∀ x : List UInt8, Op.bytesLess x x = false
  | [] => rfl
  | a :: x => by simp [Op.bytesLess, less_irr x]
theorem less_trans : ∀ x y z : List UInt8, Op.bytesLess x y = true → Op.bytesLess y z = true → Op.bytesLess x z = true
  | _, [], _, h, _ => by simp [Op.bytesLess] at h
  | _, _ :: _, [], _, h => by simp [Op.bytesLess] at h
  | [], b :: y, c :: z, _, _ => by simp [Op.bytesLess]
  | a :: x, b :: y, c :: z, h, k => by
    simp only [Op.bytesLess, Bool.or_eq_true, Bool.and_eq_true, decide_eq_true_eq, beq_iff_eq] at h k ⊢
    rcases h with h | ⟨rfl, h⟩ <;> rcases k with k | ⟨rfl, k⟩
    · exact .inl (UInt8.lt_trans h k)
    · exact .inl h
    · exact .inl k
    · exact .inr ⟨rfl, less_trans x y z h k⟩
theorem less_tri : ∀ x y : List UInt8, Op.bytesLess x y = true ∨ x = y ∨ Op.bytesLess y x = true
  | [], [] => .inr (.inl rfl)
  | [], _ :: _ => .inl rfl
  | _ :: _, [] => .inr (.inr rfl)
  | a :: x, b :: y => by
    simp only [Op.bytesLess, Bool.or_eq_true, Bool.and_eq_true, decide_eq_true_eq, beq_iff_eq]
    rcases Nat.lt_trichotomy a.toNat b.toNat with h | h | h
    · exact .inl (.inl (UInt8.lt_iff_toNat_lt.2 h))
    · have e : a = b := UInt8.toNat_inj.1 h
      subst e
      rcases less_tri x y with h | h | h
      · exact .inl (.inr ⟨rfl, h⟩)
      · exact .inr (.inl (by rw [h]))
      · exact .inr (.inr (.inr ⟨rfl, h⟩))
    · exact .inr (.inr (.inl (UInt8.lt_iff_toNat_lt.2 h)))
theorem bl_irr (x : ByteArray) : bl x x = false := less_irr _
theorem bl_trans {x y z : ByteArray} (h : bl x y = true) (k : bl y z = true) : bl x z = true := less_trans _ _ _ h k
theorem toList_inj {a b : ByteArray} (h : a.toList = b.toList) : a = b := bytes_eq (by rw [h]; simp)
theorem bl_tri (x y : ByteArray) : bl x y = true ∨ x = y ∨ bl y x = true := by
  rcases less_tri x.toList y.toList with h | h | h
  · exact .inl h
  · exact .inr (.inl (toList_inj h))
  · exact .inr (.inr h)
theorem bl_asym {x y : ByteArray} (h : bl x y = true) : bl y x = false := by
  cases hh : bl y x
  · rfl
  · exact absurd (bl_trans h hh) (by rw [bl_irr]; simp)
theorem bl_nil (x : ByteArray) : bl x ByteArray.empty = false := by
  unfold bl
  have : ByteArray.empty.toList = [] := by rw [Lib.toList_data]; rfl
  rw [this]
  cases x.toList <;> rfl

/-- The least key above another, of the first so many mutations. -/
def bestTo (H : List Mu) (last : ByteArray) : Nat → ByteArray
  | 0 => ByteArray.empty
  | i + 1 => if (!(Op.bytesLess (mu H i).k.toList last.toList || (mu H i).k.toList == last.toList)) = true ∧ (((bestTo H last i).toList == ([] : List UInt8)) = true ∨ Op.bytesLess (mu H i).k.toList (bestTo H last i).toList = true) then (mu H i).k else bestTo H last i
theorem gt_iff (k last : ByteArray) : (!(Op.bytesLess k.toList last.toList || k.toList == last.toList)) = true ↔ bl last k = true := by
  rcases bl_tri k last with h | h | h
  · have h2 := bl_asym h
    unfold bl at h h2
    simp [h, bl, h2]
  · subst h
    simp [bl_irr]
  · have h2 := bl_asym h
    have h3 : k ≠ last := fun e => by subst e; rw [bl_irr] at h; simp at h
    have h4 : (k.toList == last.toList) = false := by
      cases hh : (k.toList == last.toList)
      · rfl
      · exact absurd (bytes_eq hh) h3
    unfold bl at h2
    simp [h2, h4, h]
theorem nil_iff (k : ByteArray) : (k.toList == ([] : List UInt8)) = true ↔ k = ByteArray.empty := by
  have e : ByteArray.empty.toList = [] := by rw [Lib.toList_data]; rfl
  constructor
  · intro h; exact toList_inj (by rw [e]; simpa using h)
  · intro h; rw [h, e]; rfl
/-- What the least key above another is. -/
theorem bestTo_spec (H : List Mu) (last : ByteArray) : ∀ n, n ≤ H.length →
    (bestTo H last n = ByteArray.empty ∧ (∀ i, i < n → bl last (mu H i).k = false)) ∨
    (bl last (bestTo H last n) = true ∧ (∃ i, i < n ∧ (mu H i).k = bestTo H last n) ∧ ∀ i, i < n → bl last (mu H i).k = true → bl (mu H i).k (bestTo H last n) = false)
  | 0, _ => .inl ⟨rfl, fun i h => absurd h (Nat.not_lt_zero i)⟩
  | n + 1, hn => by
    have ih := bestTo_spec H last n (by omega)
    by_cases hc : (!(Op.bytesLess (mu H n).k.toList last.toList || (mu H n).k.toList == last.toList)) = true ∧ (((bestTo H last n).toList == ([] : List UInt8)) = true ∨ Op.bytesLess (mu H n).k.toList (bestTo H last n).toList = true)
    · have e : bestTo H last (n + 1) = (mu H n).k := by show (if _ then _ else _) = _; rw [if_pos hc]
      rw [e]
      have hg := (gt_iff _ _).1 hc.1
      refine .inr ⟨hg, ⟨n, by omega, rfl⟩, fun i hi hgi => ?_⟩
      rcases Nat.lt_succ_iff_lt_or_eq.1 hi with h | rfl
      · rcases ih with ⟨h1, h2⟩ | ⟨h1, h2, h3⟩
        · rw [h2 i h] at hgi; simp at hgi
        · have h4 := h3 i h hgi
          rcases hc.2 with h5 | h5
          · rw [(nil_iff _).1 h5, bl_nil] at h1; simp at h1
          · have h6 : bl (mu H n).k (bestTo H last n) = true := h5
            cases hh : bl (mu H i).k (mu H n).k
            · rfl
            · exact absurd (bl_trans hh h6) (by rw [h4]; simp)
      · exact bl_irr _
    · have e : bestTo H last (n + 1) = bestTo H last n := by show (if _ then _ else _) = _; rw [if_neg hc]
      rw [e]
      rcases ih with ⟨h1, h2⟩ | ⟨h1, h2, h3⟩
      · refine .inl ⟨h1, fun i hi => ?_⟩
        rcases Nat.lt_succ_iff_lt_or_eq.1 hi with h | rfl
        · exact h2 i h
        · cases hh : bl last (mu H i).k
          · rfl
          · exact absurd ⟨(gt_iff _ _).2 hh, .inl ((nil_iff _).2 h1)⟩ hc
      · obtain ⟨j, hj, hk⟩ := h2
        refine .inr ⟨h1, ⟨j, by omega, hk⟩, fun i hi hgi => ?_⟩
        rcases Nat.lt_succ_iff_lt_or_eq.1 hi with h | rfl
        · exact h3 i h hgi
        · cases hh : bl (mu H i).k (bestTo H last i)
          · rfl
          · exact absurd ⟨(gt_iff _ _).2 hgi, .inr hh⟩ hc

/-- The keys up to one that have values. -/
def KeysTo (node : Int) (H : List Mu) (last : ByteArray) (ks : List ByteArray) : Prop :=
  ks.Pairwise (fun a b => bl a b = true) ∧ ∀ k, k ∈ ks ↔ (∃ i, i < H.length ∧ (mu H i).k = k) ∧ k ≠ ByteArray.empty ∧ bl last k = false ∧ (ofM node H k).L ≠ []
/-- All keys that have values, rising. -/
def KeysOf (node : Int) (H : List Mu) (ks : List ByteArray) : Prop :=
  ks.Pairwise (fun a b => bl a b = true) ∧ ∀ k, k ∈ ks ↔ (∃ i, i < H.length ∧ (mu H i).k = k) ∧ k ≠ ByteArray.empty ∧ (ofM node H k).L ≠ []
theorem bl_pos {k : ByteArray} (h : k ≠ ByteArray.empty) : bl ByteArray.empty k = true := by
  rcases bl_tri ByteArray.empty k with h1 | h1 | h1
  · exact h1
  · exact absurd h1.symm h
  · rw [bl_nil] at h1; simp at h1
theorem KeysTo.start (node : Int) (H : List Mu) : KeysTo node H ByteArray.empty [] :=
  ⟨List.Pairwise.nil, fun k => ⟨fun h => by simp at h, fun ⟨_, h1, h2, _⟩ => by rw [bl_pos h1] at h2; simp at h2⟩⟩
theorem KeysTo.last {node : Int} {H : List Mu} {last : ByteArray} {ks : List ByteArray} (h : KeysTo node H last ks) (hb : bestTo H last H.length = ByteArray.empty) : KeysOf node H ks := by
  refine ⟨h.1, fun k => (h.2 k).trans ⟨fun ⟨h1, h2, _, h4⟩ => ⟨h1, h2, h4⟩, fun ⟨h1, h2, h4⟩ => ⟨h1, h2, ?_, h4⟩⟩⟩
  obtain ⟨i, hi, rfl⟩ := h1
  rcases bestTo_spec H last H.length (Nat.le_refl _) with ⟨_, h5⟩ | ⟨h5, _⟩
  · exact h5 i hi
  · rw [hb, bl_nil] at h5; simp at h5
theorem KeysTo.next {node : Int} {H : List Mu} {last b : ByteArray} {ks : List ByteArray} (h : KeysTo node H last ks) (hb : bestTo H last H.length = b) (hn : b ≠ ByteArray.empty) :
    bl last b = true ∧ KeysTo node H b (if (ofM node H b).L ≠ [] then ks ++ [b] else ks) := by
  rcases bestTo_spec H last H.length (Nat.le_refl _) with ⟨h5, _⟩ | ⟨h5, ⟨j, hj, hjk⟩, h7⟩
  · exact absurd (hb.symm.trans h5) hn
  rw [hb] at h5 hjk h7
  refine ⟨h5, ?_⟩
  have key : ∀ k, ((∃ i, i < H.length ∧ (mu H i).k = k) ∧ k ≠ ByteArray.empty ∧ bl b k = false ∧ (ofM node H k).L ≠ []) ↔ (k ∈ ks ∨ (k = b ∧ (ofM node H k).L ≠ [])) := by
    intro k
    rw [h.2 k]
    constructor
    · rintro ⟨⟨i, hi, rfl⟩, h2, h3, h4⟩
      cases hh : bl last (mu H i).k
      · exact .inl ⟨⟨i, hi, rfl⟩, h2, rfl, h4⟩
      · have h8 := h7 i hi hh
        rcases bl_tri (mu H i).k b with h9 | h9 | h9
        · rw [h8] at h9; simp at h9
        · exact .inr ⟨h9, h4⟩
        · rw [h3] at h9; simp at h9
    · rintro (⟨h1, h2, h3, h4⟩ | ⟨rfl, h4⟩)
      · refine ⟨h1, h2, ?_, h4⟩
        cases hh : bl b k
        · rfl
        · rw [bl_trans h5 hh] at h3; simp at h3
      · exact ⟨⟨j, hj, hjk⟩, hn, bl_irr _, h4⟩
  by_cases hne : (ofM node H b).L ≠ []
  · rw [if_pos hne]
    refine ⟨?_, fun k => ?_⟩
    · refine List.pairwise_append.2 ⟨h.1, by simp, fun x hx y hy => ?_⟩
      simp at hy
      subst hy
      have hx2 := ((h.2 x).1 hx).2.2.1
      rcases bl_tri x y with h9 | h9 | h9
      · exact h9
      · subst h9; rw [h5] at hx2; simp at hx2
      · rw [bl_trans h5 h9] at hx2; simp at hx2
    · rw [key k]
      simp only [List.mem_append, List.mem_singleton]
      constructor
      · rintro (h1 | rfl)
        · exact .inl h1
        · exact .inr ⟨rfl, hne⟩
      · rintro (h1 | ⟨h1, _⟩)
        · exact .inl h1
        · exact .inr h1
  · rw [if_neg hne]
    refine ⟨h.1, fun k => ?_⟩
    rw [key k]
    constructor
    · exact fun h1 => .inl h1
    · rintro (h1 | ⟨rfl, h1⟩)
      · exact h1
      · exact absurd h1 hne
/-- Two rising lists with the same members are one. -/
theorem rising_eq : ∀ {a b : List ByteArray}, a.Pairwise (fun x y => bl x y = true) → b.Pairwise (fun x y => bl x y = true) → (∀ k, k ∈ a ↔ k ∈ b) → a = b
  | [], [], _, _, _ => rfl
  | [], y :: b, _, _, h => absurd ((h y).2 (by simp)) (by simp)
  | x :: a, [], _, _, h => absurd ((h x).1 (by simp)) (by simp)
  | x :: a, y :: b, ha, hb, h => by
    have ha1 : ∀ {z}, z ∈ a → bl x z = true := fun h => List.rel_of_pairwise_cons ha h
    have hb1 : ∀ {z}, z ∈ b → bl y z = true := fun h => List.rel_of_pairwise_cons hb h
    have e : x = y := by
      rcases List.mem_cons.1 ((h x).1 (by simp)) with h1 | h1
      · exact h1
      · rcases List.mem_cons.1 ((h y).2 (by simp)) with h2 | h2
        · exact h2.symm
        · have := bl_asym (hb1 h1)
          rw [ha1 h2] at this; simp at this
    subst e
    congr 1
    refine rising_eq ha.of_cons hb.of_cons fun k => ?_
    constructor
    · intro hk
      rcases List.mem_cons.1 ((h k).1 (List.mem_cons_of_mem _ hk)) with h1 | h1
      · subst h1; have := ha1 hk; rw [bl_irr] at this; simp at this
      · exact h1
    · intro hk
      rcases List.mem_cons.1 ((h k).2 (List.mem_cons_of_mem _ hk)) with h1 | h1
      · subst h1; have := hb1 hk; rw [bl_irr] at this; simp at this
      · exact h1
end Go.Proofs.YtilkdeghknjjhaaGreatDoor
/- Directories that rise: plain facts. -/
namespace Go.Proofs.YtilkdeghknjjhaaGreatDoor
open Go.RowKit M
set_option linter.unusedVariables false

/-- A directory's names rise, and none is empty. -/
def Srt (l : List Nm) : Prop := l.Pairwise (fun a b => bl a.n b.n = true)
def NE (l : List Nm) : Prop := ∀ x ∈ l, x.n ≠ ByteArray.empty
theorem srt_lt {l : List Nm} (h : Srt l) {i j : Nat} (hij : i < j) (hj : j < l.length) : bl (nm l i).n (nm l j).n = true := by
  rw [nm_get l i (by omega), nm_get l j hj]
  exact List.pairwise_iff_getElem.1 h i j (by omega) hj hij
/-- A name that is there is found, with its file. -/
theorem mem_at {l : List Nm} (hs : Srt l) {x : Nm} (hx : x ∈ l) : there l x.n = true ∧ nm l (fd l x.n) = x := by
  obtain ⟨i, hi, rfl⟩ := List.getElem_of_mem hx
  have hf : fd l l[i].n = i := fd_is (by omega) (fun j hj => by have := srt_lt hs hj hi; rwa [nm_get l i hi] at this) (fun _ => by rw [nm_get l i hi]; exact bl_irr _)
  refine ⟨?_, by rw [hf, nm_get l i hi]⟩
  unfold there
  rw [hf, nm_get l i hi]
  simp [hi]
theorem there_mem {l : List Nm} {n : ByteArray} (h : there l n = true) : nm l (fd l n) ∈ l ∧ (nm l (fd l n)).n = n := by
  unfold there at h
  simp only [Bool.and_eq_true, decide_eq_true_eq] at h
  refine ⟨by rw [nm_get l _ h.1]; exact List.getElem_mem _, bytes_eq h.2⟩
theorem there_iff {l : List Nm} (hs : Srt l) (n : ByteArray) : there l n = true ↔ ∃ x ∈ l, x.n = n := by
  constructor
  · intro h; exact ⟨_, there_mem h⟩
  · rintro ⟨x, hx, rfl⟩; exact (mem_at hs hx).1
/-- Where a name is laid in. -/
def insN (l : List Nm) (x : Nm) : List Nm := l.take (fd l x.n) ++ x :: l.drop (fd l x.n)
theorem mem_ins {l : List Nm} {x y : Nm} : y ∈ insN l x ↔ y = x ∨ y ∈ l := by
  unfold insN
  have e : l = l.take (fd l x.n) ++ l.drop (fd l x.n) := (List.take_append_drop _ _).symm
  constructor
  · intro h
    rcases List.mem_append.1 h with h | h
    · exact .inr (List.mem_of_mem_take h)
    · rcases List.mem_cons.1 h with h | h
      · exact .inl h
      · exact .inr (List.mem_of_mem_drop h)
  · rintro (rfl | h)
    · simp
    · rw [e] at h
      rcases List.mem_append.1 h with h | h
      · exact List.mem_append.2 (.inl h)
      · exact List.mem_append.2 (.inr (List.mem_cons_of_mem _ h))
theorem srt_ins {l : List Nm} {x : Nm} (hs : Srt l) (hx : there l x.n = false) : Srt (insN l x) := by
  have hle := fd_le l x.n
  unfold insN Srt
  refine List.pairwise_append.2 ⟨hs.sublist (List.take_sublist _ _), List.pairwise_cons.2 ⟨fun y hy => ?_, hs.sublist (List.drop_sublist _ _)⟩, fun a ha b hb => ?_⟩
  · obtain ⟨i, hi, rfl⟩ := List.getElem_of_mem hy
    simp only [List.length_drop] at hi
    rw [List.getElem_drop]
    have hp : bl (nm l (fd l x.n)).n x.n = false := fd_at (by omega)
    have hne : ¬ (nm l (fd l x.n)).n = x.n := fun e => by
      have : there l x.n = true := by unfold there; rw [e]; simp; omega
      rw [hx] at this; simp at this
    have hlt : bl x.n (nm l (fd l x.n)).n = true := by
      rcases bl_tri (nm l (fd l x.n)).n x.n with h | h | h
      · rw [hp] at h; simp at h
      · exact absurd h hne
      · exact h
    rw [← nm_get l _ (by omega)]
    by_cases h0 : i = 0
    · subst h0; exact hlt
    · exact bl_trans hlt (srt_lt hs (by omega) (by omega))
  · have haa : bl a.n x.n = true := by
      obtain ⟨i, hi, rfl⟩ := List.getElem_of_mem ha
      simp only [List.length_take] at hi
      rw [List.getElem_take, ← nm_get l i (by omega)]
      exact fd_lt (by omega)
    rcases List.mem_cons.1 hb with rfl | hb
    · exact haa
    · have e : l = l.take (fd l x.n) ++ l.drop (fd l x.n) := (List.take_append_drop _ _).symm
      have h2 := hs
      rw [e] at h2
      exact (List.pairwise_append.1 h2).2.2 a ha b hb
/-- Create's step lays a name in. -/
theorem doTo_ins {l : List Nm} {s : Stp} (hk : (s.k == 3) = false) (hn : ∀ x ∈ l, (x.n.toList == s.fr.toList) = false) (ht : ∀ x ∈ l, (x.n.toList == s.to.toList) = false) : ∀ k, k ≤ l.length →
    doTo l s k = if k ≤ fd l s.to then l.take k else l.take (fd l s.to) ++ ⟨s.to, s.f⟩ :: (l.drop (fd l s.to)).take (k - fd l s.to)
  | 0, _ => by simp [doTo]
  | k + 1, h => by
    have ih := doTo_ins hk hn ht k (by omega)
    have hx : nm l k ∈ l := by rw [nm_get l k (by omega)]; exact List.getElem_mem _
    have hB : doB s (nm l k) = [nm l k] := by unfold doB; rw [if_pos ⟨hn _ hx, .inr (ht _ hx)⟩]
    have hsn : l.take (k + 1) = l.take k ++ [nm l k] := by rw [List.take_succ_eq_append_getElem (by omega), nm_get l k (by omega)]
    have h3 : (s.k != 3) = true := by simp [bne, hk]
    show doTo l s k ++ doA s (fd l s.to) k ++ doB s (nm l k) = _
    rw [ih, hB]
    rcases Nat.lt_trichotomy k (fd l s.to) with h1 | h1 | h1
    · have hA : doA s (fd l s.to) k = [] := by unfold doA; rw [if_neg (fun hh => by have := hh.1; simp at this; omega)]
      rw [hA, if_pos (by omega), if_pos (by omega), hsn]; simp
    · have hA : doA s (fd l s.to) k = [⟨s.to, s.f⟩] := by unfold doA; rw [if_pos ⟨by simp [h1], h3⟩]
      rw [hA, if_pos (by omega), if_neg (by omega), ← h1, show k + 1 - k = 1 by omega]
      have : (l.drop k).take 1 = [nm l k] := by
        rw [nm_get l k (by omega), List.drop_eq_getElem_cons (by omega)]; rfl
      rw [this]; simp
    · have hA : doA s (fd l s.to) k = [] := by unfold doA; rw [if_neg (fun hh => by have := hh.1; simp at this; omega)]
      rw [hA, if_neg (by omega), if_neg (by omega), show k + 1 - fd l s.to = (k - fd l s.to) + 1 by omega]
      have : (l.drop (fd l s.to)).take (k - fd l s.to + 1) = (l.drop (fd l s.to)).take (k - fd l s.to) ++ [nm l k] := by
        rw [List.take_succ_eq_append_getElem (by simp; omega), nm_get l k (by omega)]
        have e : ∀ (j : Nat) (hj : j < l.length), j = k → l[j] = l[k] := fun j hj he => by subst he; rfl
        rw [List.getElem_drop, e _ (by omega) (by omega)]
      rw [this]; simp
theorem doS_ins {l : List Nm} {s : Stp} (hk : (s.k == 3) = false) (hn : ∀ x ∈ l, (x.n.toList == s.fr.toList) = false) (ht : ∀ x ∈ l, (x.n.toList == s.to.toList) = false) : doS l s = insN l ⟨s.to, s.f⟩ := by
  have hle := fd_le l s.to
  have h3 : (s.k != 3) = true := by simp [bne, hk]
  unfold doS insN
  rw [doTo_ins hk hn ht l.length (Nat.le_refl _)]
  by_cases h : l.length ≤ fd l s.to
  · have e : fd l s.to = l.length := by omega
    have hA : doA s (fd l s.to) l.length = [⟨s.to, s.f⟩] := by unfold doA; rw [if_pos ⟨by simp [e], h3⟩]
    rw [if_pos h, hA, e]; simp
  · have hA : doA s (fd l s.to) l.length = [] := by unfold doA; rw [if_neg (fun hh => by have := hh.1; simp at this; omega)]
    rw [if_neg h, hA, List.append_nil]
    congr 2
    rw [List.take_of_length_le (by simp)]
end Go.Proofs.YtilkdeghknjjhaaGreatDoor
/- What the disk's calls keep: plain facts. -/
namespace Go.Proofs.YtilkdeghknjjhaaGreatDoor
open Go.RowKit M
set_option linter.unusedVariables false

theorem ne_toList {a b : ByteArray} (h : a ≠ b) : (a.toList == b.toList) = false := by
  cases hh : (a.toList == b.toList)
  · rfl
  · exact absurd (bytes_eq hh) h
theorem not_there {l : List Nm} (hs : Srt l) {n : ByteArray} (h : there l n = false) : ∀ x ∈ l, x.n ≠ n := fun x hx e => by
  have := (there_iff hs n).2 ⟨x, hx, e⟩
  rw [h] at this; simp at this
theorem mem_set_or {α : Type} {l : List α} {i : Nat} {a x : α} (h : x ∈ l.set i a) : x ∈ l ∨ x = a := by
  obtain ⟨j, hj, rfl⟩ := List.getElem_of_mem h
  rw [List.getElem_set]
  split
  · exact .inr rfl
  · exact .inl (List.getElem_mem _)
/-- What holds of every disk between two calls of the store. -/
structure Dk.WF (D : Dk) : Prop where
  ok : D.OK
  srt : Srt D.now
  ne : NE D.now
theorem Dk.WF.chg {D : Dk} (h : D.WF) (hf : D.failed < 1000000000000000) : D.chg.WF := ⟨h.ok.chg hf, by rw [D.chg_now]; exact h.srt, by rw [D.chg_now]; exact h.ne⟩
theorem Dk.WF.sync {D : Dk} (h : D.WF) (hf : D.failed < 1000000000000000) (n : ByteArray) : (D.sync n).WF := by
  unfold Dk.sync
  have hc := h.chg hf
  split
  · refine ⟨⟨⟨hc.ok.fit.w, hc.ok.fit.l, hc.ok.fit.f0, hc.ok.fit.f1⟩, ?_, ?_, ?_, hc.ok.ln, ?_, hc.ok.lt, hc.ok.ls, ?_, hc.ok.c0, hc.ok.c1, ?_⟩, hc.srt, hc.ne⟩
    · intro x hx; have := hc.ok.now x hx; rw [D.chg_files] at this; simpa using this
    · intro x hx; have := hc.ok.safe x hx; rw [D.chg_files] at this; simpa using this
    · intro x hx; have := hc.ok.steps x hx; rw [D.chg_files] at this; simpa using this
    · have := h.ok.lf; simpa using this
    · intro x hx
      rcases mem_set_or hx with hx | rfl
      · exact h.ok.sz x hx
      · exact h.ok.size _
    · intro hcap x hx
      have hcap' : D.cap < 0 := by have : D.chg.cap < 0 := hcap; rwa [D.chg_cap] at this
      rcases mem_set_or hx with hx | rfl
      · exact h.ok.neg hcap' x hx
      · exact h.ok.size0 hcap' _
  · exact hc
theorem Dk.WF.syncDir {D : Dk} (h : D.WF) (hf : D.failed < 1000000000000000) : D.syncDir.WF := by
  unfold Dk.syncDir
  have hc := h.chg hf
  split
  · refine ⟨⟨⟨hc.ok.fit.w, hc.ok.fit.l, hc.ok.fit.f0, hc.ok.fit.f1⟩, hc.ok.now, ?_, fun x hx => by simp at hx, hc.ok.ln, hc.ok.lf, by simp, h.ok.ln, hc.ok.sz, hc.ok.c0, hc.ok.c1, hc.ok.neg⟩, hc.srt, hc.ne⟩
    intro x hx
    have := h.ok.now x hx
    show x.f < D.chg.files.length
    rw [D.chg_files]; exact this
  · exact hc
theorem Dk.WF.append {D : Dk} (h : D.WF) (hf : D.failed < 1000000000000000) (n t : ByteArray) (hs : D.sizeOf n + t.size ≤ 1000000000) : (D.append n t).WF := by
  unfold Dk.append
  have hc := h.chg hf
  split
  · rename_i ha
    refine ⟨⟨⟨hc.ok.fit.w, hc.ok.fit.l, hc.ok.fit.f0, hc.ok.fit.f1⟩, ?_, ?_, ?_, hc.ok.ln, ?_, hc.ok.lt, hc.ok.ls, ?_, hc.ok.c0, hc.ok.c1, ?_⟩, hc.srt, hc.ne⟩
    · intro x hx; have := hc.ok.now x hx; rw [D.chg_files] at this; simpa using this
    · intro x hx; have := hc.ok.safe x hx; rw [D.chg_files] at this; simpa using this
    · intro x hx; have := hc.ok.steps x hx; rw [D.chg_files] at this; simpa using this
    · have := h.ok.lf; simpa using this
    · intro x hx
      rcases mem_set_or hx with hx | rfl
      · exact h.ok.sz x hx
      · show ((fl D.files (D.at n)).d ++ t).size ≤ _
        rw [ByteArray.size_append]; exact hs
    · intro hcap x hx
      exfalso
      have hcap' : D.cap < 0 := by have : D.chg.cap < 0 := hcap; rwa [D.chg_cap] at this
      have hb := h.ok.bytes
      unfold Dk.appends at ha
      simp only [Bool.and_eq_true, decide_eq_true_eq] at ha
      omega
  · exact hc
theorem Dk.create_now {D : Dk} (h : D.WF) {n : ByteArray} (hc : D.creates n = true) : doS D.now (D.step1 n) = insN D.now ⟨n, D.files.length⟩ ∧ there D.now n = false ∧ n ≠ ByteArray.empty := by
  unfold Dk.creates at hc
  simp only [Bool.and_eq_true, Bool.not_eq_true'] at hc
  have hn : n ≠ ByteArray.empty := fun e => by
    have := (nil_iff n).2 e
    rw [hc.2] at this; simp at this
  exact ⟨doS_ins (s := D.step1 n) rfl (fun x hx => ne_toList (h.ne x hx)) (fun x hx => ne_toList (not_there h.srt hc.1.2 x hx)), hc.1.2, hn⟩
theorem insN_len (l : List Nm) (x : Nm) : (insN l x).length = l.length + 1 := by
  have := fd_le l x.n
  unfold insN
  simp; omega
theorem Dk.WF.create {D : Dk} (h : D.WF) (hf : D.failed < 1000000000000000) (n : ByteArray) (h1 : D.files.length < 1000000000) (h2 : D.steps.length < 1000000000) (h3 : D.now.length < 1000000000) : (D.create n).WF := by
  unfold Dk.create
  have hc := h.chg hf
  split
  · rename_i ha
    obtain ⟨e, ht, hn⟩ := Dk.create_now h ha
    have hm : ∀ x ∈ insN D.now ⟨n, D.files.length⟩, x.f < (D.files ++ [Fl.z]).length := fun x hx => by
      rcases mem_ins.1 hx with rfl | hx
      · simp
      · have := h.ok.now x hx; simp; omega
    rw [e]
    refine ⟨⟨⟨hc.ok.fit.w, hc.ok.fit.l, hc.ok.fit.f0, hc.ok.fit.f1⟩, hm, ?_, ?_, ?_, ?_, ?_, hc.ok.ls, ?_, hc.ok.c0, hc.ok.c1, ?_⟩, srt_ins h.srt ht, ?_⟩
    · intro x hx; have := hc.ok.safe x hx; rw [D.chg_files] at this; simp; omega
    · intro x hx
      rcases List.mem_append.1 hx with hx | hx
      · have := h.ok.steps x hx; simp; omega
      · simp at hx; subst hx; simp [Dk.step1]
    · show (insN D.now _).length ≤ _
      rw [insN_len]; omega
    · simp; omega
    · simp; omega
    · intro x hx
      rcases List.mem_append.1 hx with hx | hx
      · exact h.ok.sz x hx
      · simp at hx; subst hx; simp [Fl.z]
    · intro hcap x hx
      have hcap' : D.cap < 0 := by have : D.chg.cap < 0 := hcap; rwa [D.chg_cap] at this
      rcases List.mem_append.1 hx with hx | hx
      · exact h.ok.neg hcap' x hx
      · simp at hx; subst hx; simp [Fl.z]
    · intro x hx
      rcases mem_ins.1 hx with rfl | hx
      · exact hn
      · exact h.ne x hx
  · exact hc
theorem Dk.WF.new (c : Int) (h0 : -9223372036854775808 ≤ c) (h1 : c ≤ 9223372036854775807) : (Dk.new c).WF :=
  ⟨⟨⟨by show (-1 : Int) ≤ _; omega, by show (-1 : Int) ≤ _; omega, by show (0 : Int) ≤ 0; omega, by show (0 : Int) ≤ _; omega⟩, fun x hx => by simp [Dk.new] at hx, fun x hx => by simp [Dk.new] at hx, fun x hx => by simp [Dk.new] at hx, by simp [Dk.new], by simp [Dk.new], by simp [Dk.new], by simp [Dk.new], fun x hx => by simp [Dk.new] at hx, h0, h1, fun _ x hx => by simp [Dk.new] at hx⟩, by simp [Dk.new, Srt], fun x hx => by simp [Dk.new] at hx⟩
end Go.Proofs.YtilkdeghknjjhaaGreatDoor
/- The disk's budget: so many changing calls more are borne. Plain facts. -/
namespace Go.Proofs.YtilkdeghknjjhaaGreatDoor
open Go.RowKit M
set_option linter.unusedVariables false

/-- So many changing calls more are borne. -/
structure Dk.Bud (D : Dk) (k : Nat) : Prop where
  f : D.failed + k ≤ 1000000000000000
  l : D.files.length + k ≤ 1000000000
  s : D.steps.length + k ≤ 1000000000
  n : D.now.length + k ≤ 1000000000
theorem Dk.Bud.mono {D : Dk} {k m : Nat} (h : D.Bud k) (hm : m ≤ k) : D.Bud m := by
  obtain ⟨a, b, c, d⟩ := h
  exact ⟨by omega, by omega, by omega, by omega⟩
theorem Dk.chg_failed (D : Dk) : D.chg.failed ≤ D.failed + 1 := by
  unfold Dk.chg
  split
  · show D.failed ≤ _; omega
  · show D.failed + 1 ≤ _; omega
theorem Dk.Bud.chg {D : Dk} {k : Nat} (h : D.Bud (k + 1)) : D.chg.Bud k := by
  have := D.chg_failed
  obtain ⟨a, b, c, d⟩ := h
  exact ⟨by omega, by rw [D.chg_files]; omega, by rw [D.chg_steps]; omega, by rw [D.chg_now]; omega⟩
theorem Dk.Bud.lt {D : Dk} {k : Nat} (h : D.Bud (k + 1)) : D.failed < 1000000000000000 := by have := h.f; omega
theorem Dk.Bud.sync {D : Dk} {k : Nat} (h : D.Bud (k + 1)) (n : ByteArray) : (D.sync n).Bud k := by
  have hc := h.chg
  unfold Dk.sync
  split
  · exact ⟨hc.f, by have := h.l; show (D.files.set _ _).length + k ≤ _; rw [List.length_set]; omega, hc.s, hc.n⟩
  · exact hc
theorem Dk.Bud.syncDir {D : Dk} {k : Nat} (h : D.Bud (k + 1)) : D.syncDir.Bud k := by
  have hc := h.chg
  unfold Dk.syncDir
  split
  · exact ⟨hc.f, hc.l, by have := h.s; show 0 + k ≤ _; omega, hc.n⟩
  · exact hc
theorem Dk.Bud.append {D : Dk} {k : Nat} (h : D.Bud (k + 1)) (n t : ByteArray) : (D.append n t).Bud k := by
  have hc := h.chg
  unfold Dk.append
  split
  · exact ⟨hc.f, by have := h.l; show (D.files.set _ _).length + k ≤ _; rw [List.length_set]; omega, hc.s, hc.n⟩
  · exact hc
theorem Dk.Bud.create {D : Dk} {k : Nat} (hw : D.WF) (h : D.Bud (k + 1)) (n : ByteArray) : (D.create n).Bud k := by
  have hc := h.chg
  unfold Dk.create
  split
  · rename_i ha
    obtain ⟨e, _, _⟩ := Dk.create_now hw ha
    refine ⟨hc.f, ?_, ?_, ?_⟩
    · have := h.l; show (D.files ++ [Fl.z]).length + k ≤ _; simp; omega
    · have := h.s; show (D.steps ++ [D.step1 n]).length + k ≤ _; simp; omega
    · have := h.n; show (doS D.now (D.step1 n)).length + k ≤ _; rw [e, insN_len]; omega
  · exact hc
theorem Dk.WF.create' {D : Dk} {k : Nat} (hw : D.WF) (h : D.Bud (k + 1)) (n : ByteArray) : (D.create n).WF := hw.create h.lt n (by have := h.l; omega) (by have := h.s; omega) (by have := h.n; omega)
end Go.Proofs.YtilkdeghknjjhaaGreatDoor
/- The journal: syncLast, Sync, begin, write. -/
namespace Go.Proofs.YtilkdeghknjjhaaGreatDoor
open Go.RowKit M
set_option linter.unusedVariables false

/-- A journal, plain. -/
structure Jn where
  roll : Nat
  num : Nat
  size : Nat
  cut : Bool
/-- The journal lies at block j, its disk at block d. -/
def JAt (w : World) (j d : Nat) (J : Jn) : Prop := w.heap[j]? = some (.cells #[.pointer (some ⟨d, 0, none⟩), .int .i64 J.roll, .int .i64 J.num, .int .i64 J.size, .bool J.cut] 199 (0, 0))
theorem JAt.cell {w : World} {j d : Nat} {J : Jn} (h : JAt w j d J) (o : Nat) : w.cell? ⟨j, o, none⟩ = #[Value.pointer (some ⟨d, 0, none⟩), .int .i64 J.roll, .int .i64 J.num, .int .i64 J.size, .bool J.cut][o]? := by
  unfold JAt at h; simp [World.cell?, h]
theorem JAt.frozen {w : World} {j d : Nat} {J : Jn} (h : JAt w j d J) (o : Nat) : w.frozen? ⟨j, o, none⟩ = false := frozen_of_row _ _ _ _ _ h
theorem JAt.below {w w' : World} {j d : Nat} {J : Jn} (h : JAt w j d J) (b : Below w.heap.size w w') : JAt w' j d J := heap_later b h
theorem JAt.tr {Y : Nat → Prop} {w w' : World} {j d : Nat} {J : Jn} (h : JAt w j d J) (b : Tr Y w w') (hz : ¬ Y j) : JAt w' j d J := b.heap h hz
theorem Vars.drew {w : World} (h : Vars w) : Vars w.drew := h.of fun k _ => rfl
theorem DiskAt.drew {Z : Nat → Prop} {w : World} {p : Nat} {D : Dk} (h : DiskAt Z w p D) : DiskAt Z w.drew p D := h.below (Below.drew (Below.refl _ _))
/-- A zone, and one block more. -/
def Zj (Z : Nat → Prop) (j : Nat) : Nat → Prop := fun k => Z k ∨ k = j
theorem Tr.zj {Z : Nat → Prop} {w w' : World} (h : Tr Z w w') (j : Nat) : Tr (Zj Z j) w w' := h.mono fun k _ hz => .inl hz
theorem Tr.setJ {Z : Nat → Prop} {j : Nat} {a w : World} (h : Tr (Zj Z j) a w) (o : Nat) (u : Value) : Tr (Zj Z j) a (w.setCell ⟨j, o, none⟩ u) := h.setCell (p := ⟨j, o, none⟩) (show Zj Z j j from .inr rfl) u
theorem DiskAt.setJ {Z : Nat → Prop} {w : World} {p j : Nat} {D : Dk} (h : DiskAt Z w p D) (hj : ¬ Z j) (o : Nat) (u : Value) : DiskAt Z (w.setCell ⟨j, o, none⟩ u) p D :=
  h.tr (Y := One j) ((Tr.refl (One j) w).set1 o u) (fun k hk (e : k = j) => hj (e ▸ hk))

/-- A journal, its disk, and the library's variables. -/
structure Side (Z : Nat → Prop) (w : World) (j d : Nat) (D : Dk) (J : Jn) : Prop where
  dk : DiskAt Z w d D
  jn : JAt w j d J
  vs : Vars w
/-- The disk's zone is apart from the journal's block and the library's. -/
structure Apart (Z : Nat → Prop) (j : Nat) : Prop where
  z : ¬ Z j
  v : ∀ k, k < 5 → ¬ Z k
  j5 : 5 ≤ j
theorem Side.below {Z : Nat → Prop} {w w' : World} {j d : Nat} {D : Dk} {J : Jn} (h : Side Z w j d D J) (b : Below w.heap.size w w') : Side Z w' j d D J := ⟨h.dk.below b, h.jn.below b, h.vs.below b⟩
/-- The disk has turned. -/
theorem Side.disk {Z : Nat → Prop} {w w' : World} {j d : Nat} {D D' : Dk} {J : Jn} (h : Side Z w j d D J) (ha : Apart Z j) (t : Tr Z w w') (hd : DiskAt Z w' d D') : Side Z w' j d D' J := ⟨hd, h.jn.tr t ha.z, h.vs.tr t ha.v⟩
/-- A cell of the journal has turned. -/
theorem Side.set {Z : Nat → Prop} {w : World} {j d : Nat} {D : Dk} {J J' : Jn} (h : Side Z w j d D J) (ha : Apart Z j) (o : Nat) (u : Value) (hj : JAt (w.setCell ⟨j, o, none⟩ u) j d J') : Side Z (w.setCell ⟨j, o, none⟩ u) j d D J' :=
  ⟨h.dk.setJ ha.z o u, hj, h.vs.tr ((Tr.refl (One j) w).set1 o u) (fun k hk (e : k = j) => by have := ha.j5; omega)⟩
theorem JAt.setNum {w : World} {j d : Nat} {J : Jn} (h : JAt w j d J) (n : Nat) : JAt (w.setCell ⟨j, 2, none⟩ (.int .i64 n)) j d { J with num := n } := heap_setCell_self h 2 _
theorem JAt.setSize {w : World} {j d : Nat} {J : Jn} (h : JAt w j d J) (n : Nat) : JAt (w.setCell ⟨j, 3, none⟩ (.int .i64 n)) j d { J with size := n } := heap_setCell_self h 3 _
theorem JAt.setCut {w : World} {j d : Nat} {J : Jn} (h : JAt w j d J) (b : Bool) : JAt (w.setCell ⟨j, 4, none⟩ (.bool b)) j d { J with cut := b } := heap_setCell_self h 4 _

/-- What syncLast does. -/
def jsl (D : Dk) (J : Jn) : Bool × Dk := if J.num = 0 then (true, D) else (D.syncs (fnm J.num), D.sync (fnm J.num))
theorem jsl_wf {D : Dk} (h : D.WF) (k : Nat) (hb : D.Bud (k + 1)) (J : Jn) : (jsl D J).2.WF := by
  unfold jsl; split
  · exact h
  · exact h.sync hb.lt _
theorem jsl_bud {D : Dk} {k : Nat} (hb : D.Bud (k + 1)) (J : Jn) : (jsl D J).2.Bud k := by
  unfold jsl; split
  · exact hb.mono (by omega)
  · exact hb.sync _

set_option maxRecDepth 20000 in
set_option maxHeartbeats 1600000 in
theorem syncLast_any (Z : Nat → Prop) (j d : Nat) (D : Dk) (J : Jn) (w : World) (h : Side Z w j d D J) (ha : Apart Z j) (hwf : D.WF) (hn : J.num < 1000000000) :
    Calls Tryz.prog 117 #[.pointer (some ⟨j, 0, none⟩)] w fun e w' => e = .returned (.bool (jsl D J).1) ∧ Side Z w' j d (jsl D J).2 J ∧ Tr Z w w' := by
  have c0 : w.cell? ⟨j, 0, none⟩ = some (.pointer (some ⟨d, 0, none⟩)) := (h.jn.cell 0).trans rfl
  have c2 : w.cell? ⟨j, 2, none⟩ = some (.int .i64 J.num) := (h.jn.cell 2).trans rfl
  by_cases h0 : J.num = 0
  · have HE : Hid (jsl D J = (true, D)) := if_pos h0
    have hb : ((J.num : Int) == 0) = true := by simp [h0]
    clear h0
    go_enter Tryz.func117, Tryz.ntmps117
    go_upto_region 1 with (fail)
    go_quiet (fail)
    go_wp2
    go_ret
    exact ⟨by rw [HE.out]; rfl, by rw [HE.out]; exact h.below (below_drewN (Below.refl _ _) _), (Tr.refl Z w).drewN _⟩
  · have HE : Hid (jsl D J = (D.syncs (fnm J.num), D.sync (fnm J.num))) := if_neg h0
    have hb : ((J.num : Int) == 0) = false := by simp [h0]
    have HF : Hid (∀ w1, Below w.heap.size w w1 → Calls Tryz.prog 125 #[.int .i64 J.num] w1 fun e w' => e = .returned (.string (fnm J.num)) ∧ Below w1.heap.size w1 w') := fun w1 h1 => fileName_any J.num w1 (by omega) (h.vs.below h1)
    have HS : Hid (∀ w1, Below w.heap.size w w1 → Calls Tryz.prog 176 #[.pointer (some ⟨d, 0, none⟩), .string (fnm J.num)] w1 fun e w' => e = .returned (.bool (D.syncs (fnm J.num))) ∧ DiskAt Z w' d (D.sync (fnm J.num)) ∧ Tr Z w1 w') := fun w1 h1 => Sync_any Z d D _ w1 (h.dk.below h1) hwf.ok
    have HEnd : Hid (∀ w1 w2, Below w.heap.size w w1 → Tr Z w1 w2 → DiskAt Z w2 d (D.sync (fnm J.num)) → Side Z w2 j d (D.sync (fnm J.num)) J ∧ Tr Z w w2) := fun w1 w2 h1 h2 h3 => ⟨(h.below h1).disk ha h2 h3, (below_tr h1 Z).trans h2⟩
    have hzj := ha.z
    obtain ⟨n, hnn⟩ : ∃ n, fnm J.num = n := ⟨_, rfl⟩
    rw [hnn] at HE HF HS HEnd
    have hw0 : Below w.heap.size w w := Below.refl _ _
    clear hnn h0 h ha hn hwf
    go_enter Tryz.func117, Tryz.ntmps117
    go_upto_region 1 with (fail)
    go_region_held3 (fun w' => w'.cell? ⟨j, 0, none⟩ = some (.pointer (some ⟨d, 0, none⟩)) ∧ w'.cell? ⟨j, 2, none⟩ = some (.int .i64 J.num))
      (first | exact ⟨c0, c2⟩ | exact ⟨by assumption, by assumption⟩)
      (first
        | ((go_at_call 125; refine (HF.out _ (Below.drew hw0)).mono ?_; rintro e w1 ⟨rfl, hb1⟩; have B1 := belowN (Below.drew hw0) hb1; have f0 := cell_later B1 c0; have f2 := cell_later B1 c2))
        | ((go_at_call 176; refine (HS.out _ B1).mono ?_; rintro e w2 ⟨rfl, h2, t2⟩; have g0 := cell_tr t2 f0 hzj; have g2 := cell_tr t2 f2 hzj)))
    go_wp2
    go_ret
    obtain ⟨h3, h4⟩ := HEnd.out _ _ B1 t2 h2
    exact ⟨by rw [HE.out]; rfl, by rw [HE.out]; exact h3, h4⟩

/-- What Sync does. -/
def jsync (D : Dk) (J : Jn) : Bool × Dk := if (jsl D J).1 = true then ((jsl D J).2.may, (jsl D J).2.syncDir) else (false, (jsl D J).2)
theorem jsync_wf {D : Dk} (h : D.WF) (k : Nat) (hb : D.Bud (k + 2)) (J : Jn) : (jsync D J).2.WF := by
  have h1 := jsl_wf h _ hb J
  unfold jsync; split
  · exact h1.syncDir (jsl_bud hb J).lt
  · exact h1
theorem jsync_bud {D : Dk} {k : Nat} (hb : D.Bud (k + 2)) (J : Jn) : (jsync D J).2.Bud k := by
  unfold jsync; split
  · exact (jsl_bud hb J).syncDir
  · exact (jsl_bud hb J).mono (by omega)
set_option maxRecDepth 20000 in
set_option maxHeartbeats 800000 in
theorem jSync_any (Z : Nat → Prop) (j d : Nat) (D : Dk) (J : Jn) (w : World) (h : Side Z w j d D J) (ha : Apart Z j) (hwf : D.WF) (hbu : D.Bud 2) (hn : J.num < 1000000000) :
    Calls Tryz.prog 69 #[.pointer (some ⟨j, 0, none⟩)] w fun e w' => e = .returned (.bool (jsync D J).1) ∧ Side Z w' j d (jsync D J).2 J ∧ Tr Z w w' := by
  have HL := syncLast_any Z j d D J w h ha hwf hn
  have hw1 := jsl_wf hwf _ hbu J
  have HD : Hid (∀ w1, Side Z w1 j d (jsl D J).2 J → Calls Tryz.prog 118 #[.pointer (some ⟨d, 0, none⟩)] w1 fun e w' => e = .returned (.bool (jsl D J).2.may) ∧ DiskAt Z w' d (jsl D J).2.syncDir ∧ Tr Z w1 w') := fun w1 h1 => SyncDir_any Z d _ w1 h1.dk hw1.ok
  have HJ : Hid (jsync D J = if (jsl D J).1 = true then ((jsl D J).2.may, (jsl D J).2.syncDir) else (false, (jsl D J).2)) := rfl
  obtain ⟨q, hq⟩ : ∃ q, jsl D J = q := ⟨_, rfl⟩
  rw [hq] at HL HD HJ
  clear hq hw1 hwf hbu hn h
  obtain ⟨b, D1⟩ := q
  go_enter Tryz.func69, Tryz.ntmps69
  go_wp2_with fail
  refine HL.mono ?_
  rintro e w1 ⟨rfl, h1, t1⟩
  have c0 : w1.cell? ⟨j, 0, none⟩ = some (.pointer (some ⟨d, 0, none⟩)) := (h1.jn.cell 0).trans rfl
  simp only at HJ h1 ⊢
  cases b
  · have HJ2 : Hid (jsync D J = (false, D1)) := HJ
    clear HJ HD
    go_wp2
    go_ret
    exact ⟨by rw [HJ2.out]; rfl, by rw [HJ2.out]; exact h1, t1⟩
  · have HJ2 : Hid (jsync D J = (D1.may, D1.syncDir)) := HJ
    clear HJ
    go_wp2_with fail
    refine (HD.out w1 h1).mono ?_
    rintro e w2 ⟨rfl, h2, t2⟩
    go_wp2
    go_ret
    exact ⟨by rw [HJ2.out]; rfl, by rw [HJ2.out]; exact h1.disk ha t2 h2, t1.trans t2⟩
end Go.Proofs.YtilkdeghknjjhaaGreatDoor
