/- The document's Discard. -/
import Derived.Test.YtilkdeghknjjhaaGreatDoorPart19
import Derived.Test.YtilkdeghknjjhaaGreatDoorPart13
import Derived.Test.YtilkdeghknjjhaaGreatDoorPart18
import Derived.WalkKit
import Derived.WalkSpells
import Derived.WalkLawsBesides
import Derived.Deep.QuietTactic
import Derived.BigQuiet
import Derived.Deep.RegionLaw
import Derived.Deep.Cut
namespace Go.Proofs.YtilkdeghknjjhaaGreatDoor
open Go.RowKit M
set_option linter.unusedVariables false

section
variable {P : Program}
/-- append to an owned row, as one step of a region that draws its order. -/
theorem step_append_own {ops : Array Oper} {o : Oper} {a : Act} {w : World} {K : Act → World → Prop} {Q : Exit → Act → World → Prop} {E : Prop} (hgd : o.guard = none) (s x : Operand) (t : TypeId)
    (ho : o.op = .call { callee := .builtin .append, args := #[s, x], argTypes := #[t, t] })
    (base : Nat) (e : TypeId) (i : TypeInfo) (z : Value) (size bytes : Nat) (ht : P.underlying t = some (.slice e)) (hi : P.info? e = some i) (hz : i.zero = some z)
    (hsize : i.size = size) (hby : i.bytes = bytes) (hzs : z.cells.size = size) (hsz : 0 < size)
    (v : Value) (n : Nat) (xs : List Value) (hs : a.eval s = v) (hown : w.ownsRow base e size v n xs)
    (ad : Addr) (m c : Nat) (news : List Value) (hx : a.eval x = .slice (some ad) m c) (hl : news.length = m * size) (hnews : ∀ j u, news[j]? = some u → w.cell? (ad.add j) = some u) (h1 : ∀ u ∈ news, u.oneCell' = true)
    (h63 : n + m ≤ maxLen) (hbytes : (n + m) * bytes ≤ 140737488355328) (hbase : base ≤ w.heap.size)
    (h : ∀ v' w', w'.ownsRow base e size v' (n + m) (xs ++ news) → w.grownBy w' v.ownBlock → K (a.put o.dst v') w') :
    if Region.wanted o (yielded ops a.tmps) = true then Oper.wp P o a w K Q else E := by
  have hw : Region.wanted o (yielded ops a.tmps) = true := by simp [Region.wanted, hgd]
  rw [if_pos hw]
  obtain ⟨v', w', hrun, r1, r2, _⟩ := run_append_own (P := P) w base t o.type e i z size bytes ht hi hz hsize hby hzs hsz v n xs hown ad m c news hl hnews h1 h63 hbytes hbase
  unfold Oper.wp
  simp [execOp, ho, resolve, invoke, builtin, hs, hx, hrun, Result.andThen]
  exact h v' w' r1 r2
end
theorem own_drew {w : World} {B e size n : Nat} {v : Value} {xs : List Value} (h : w.ownsRow B e size v n xs) : w.drew.ownsRow B e size v n xs := h
theorem results28 (tmps : Array Value) (w : World) (g : Nat) (v1 v2 : Value) (n : Int) (h2 : tmps.getD 4 undef = .pointer (some ⟨g, 0, none⟩)) (h3 : tmps.getD 5 undef = .int .i64 n) (hg : w.heap[g]? = some (.cells #[v1, v2] 117 (0, 0))) :
    (results Tryz.f175 tmps).run Tryz.prog w = .ok (.tuple #[.agg #[v1, v2], .int .i64 n]) w := by
  have hl := run_loadVar_row (P := Tryz.prog) w g 117 117 #[v1, v2] (0, 0) _ hg Tryz.underlying117 rfl info38
  have h2' : tmps[4]?.getD undef = .pointer (some ⟨g, 0, none⟩) := by simpa using h2
  have h3' : tmps[5]?.getD undef = .int .i64 n := by simpa using h3
  simp [results, Tryz.results175, h2', h3', asAddr, hl]

theorem own_ne_row {w : World} {B e s n k : Nat} {t : TypeId} {v : Value} {xs : List Value} {old : Array Value} (h : w.ownsRow B e s v n xs) (hk : w.heap[k]? = some (.cells old t (0, 0))) (hne : e ≠ t) : some k ≠ v.ownBlock := by
  intro hh
  rcases h.2 with ⟨rfl, _⟩ | ⟨g, cap, cur, rfl, _, hg, _⟩
  · simp [Value.ownBlock] at hh
  · simp [Value.ownBlock] at hh
    subst hh
    rw [hg] at hk
    simp at hk
    exact hne hk.2
/-- Behind an append to the list that stands in a set's place. -/
theorem grow_pack {w4 X w5 : World} {Q : Nat} {a4 a5 : Option Addr} {Jn cap4 n5 cap5 : Nat} {U : List Sb} {v' : Value} {ys : List Value} (hbX : Below Q w4 X) (hQ : X.heap[Q]? = some (.cells #[.slice a4 Jn cap4, .slice a5 n5 cap5] 117 (0, 0)))
    (hO : X.ownsRow Q 122 3 (.slice a5 n5 cap5) n5 (cellsS U)) (hown : w5.ownsRow Q 122 3 v' (n5 + 1) ys) (hgrow : X.grownBy w5 (Value.slice a5 n5 cap5).ownBlock) :
    ∃ a7 cap7, v' = .slice a7 (n5 + 1) cap7 ∧ Below Q w4 w5 ∧ w5.heap[Q]? = some (.cells #[.slice a4 Jn cap4, .slice a5 n5 cap5] 117 (0, 0)) ∧ w5.cell? ⟨Q, 1, none⟩ = some (.slice a5 n5 cap5) ∧ w5.frozen? ⟨Q, 1, none⟩ = false ∧ Q ≤ w5.heap.size := by
  obtain ⟨a7, cap7, rfl⟩ := own_shape hown
  have hlt := (Array.getElem?_eq_some_iff.1 hQ).1
  have hrow := (hgrow.block Q hlt (own_ne_row hO hQ (by decide))).trans hQ
  have hsz := hgrow.size
  refine ⟨a7, cap7, rfl, hbX.grown hgrow (by omega) (fun q hq => (hO.lt q hq).1), hrow, ?_, frozen_of_row _ _ _ _ _ hrow, by omega⟩
  rw [cell_of_row _ _ _ _ _ _ hrow]
  rfl
theorem pack_end {w4 w5 : World} {Q : Nat} {a4 a5 a7 : Option Addr} {Jn cap4 n5 cap5 cap7 : Nat} {ys : List Value} (hb : Below Q w4 w5) (hQ : w5.heap[Q]? = some (.cells #[.slice a4 Jn cap4, .slice a5 n5 cap5] 117 (0, 0))) (ho : w5.ownsRow Q 122 3 (.slice a7 (n5 + 1) cap7) (n5 + 1) ys) :
    (w5.setCell ⟨Q, 1, none⟩ (.slice a7 (n5 + 1) cap7)).heap[Q]? = some (.cells #[.slice a4 Jn cap4, .slice a7 (n5 + 1) cap7] 117 (0, 0)) ∧ (w5.setCell ⟨Q, 1, none⟩ (.slice a7 (n5 + 1) cap7)).ownsRow Q 122 3 (.slice a7 (n5 + 1) cap7) (n5 + 1) ys ∧
      Below Q w4 (w5.setCell ⟨Q, 1, none⟩ (.slice a7 (n5 + 1) cap7)) := by
  refine ⟨?_, ⟨ho.1, ?_⟩, hb.setCell (Nat.le_refl _) _⟩
  · rw [heap_setCell_same _ _ _ _ _ _ hQ]; rfl
  · rcases ho.2 with hn | ⟨g, cap, cur, h1, h2, h3, rest⟩
    · exact .inl hn
    · refine .inr ⟨g, cap, cur, h1, h2, ?_, rest⟩
      rw [heap_setCell_other _ _ _ _ (fun e => by
        simp only at e
        rw [e] at h3
        rw [hQ] at h3
        simp at h3)]
      exact h3

set_option maxRecDepth 40000 in
set_option maxHeartbeats 3200000 in
theorem refDiscard_any (vs v vc : Value) (sc c : List (Int × Int)) (l : List Sb) (w : World) (hrs : Rd w vs sc) (hrd : RdS w v l) (hrc : Rd w vc c) :
    Calls Tryz.prog 175 #[.agg #[vs, v], vc] w fun e w' => DisEnd w sc c l e w' := by
  obtain ⟨i0, hi, hz0, hz1, hz2⟩ := info_parts Tryz.info122
  obtain ⟨ps, caps, rfl⟩ := hrs.shape
  obtain ⟨a, cap, rfl⟩ := hrd.shape
  obtain ⟨ac, capc, rfl⟩ := hrc.shape
  go_enter Tryz.func175, Tryz.ntmps175
  go_wp2_with fail
  obtain ⟨W, hW, hb, t0, t1, rg⟩ : ∃ W, ((w.alloc (.cells #[.slice ps sc.length caps, .slice a l.length cap] 117)).alloc (.cells #[.slice none 0 0, .slice none 0 0] 117)) = W ∧ Below w.heap.size w W ∧
      W.cell? ⟨w.heap.size, 0, none⟩ = some (.slice ps sc.length caps) ∧ W.cell? ⟨w.heap.size, 1, none⟩ = some (.slice a l.length cap) ∧
      W.heap[w.heap.size + 1]? = some (.cells nilSet 117 (0, 0)) :=
    ⟨_, rfl, ((Below.refl _ _).alloc (Nat.le_refl _) _).alloc (by simp) _, by simp [go_sem], by simp [go_sem], heap_alloc2_new w _ _⟩
  rw [hW]
  refine (refset_any _ _ sc l W (hrs.below hb) (hrd.below hb)).mono ?_
  rintro e w1 ⟨r, rfl, hr, hb2⟩
  have hb1 : Below w.heap.size w w1 := hb.trans (hb2.mono hb.size)
  have e0 := cell_later hb2 t0
  have e1 := cell_later hb2 t1
  have HG : Hid (w1.heap[w.heap.size + 1]? = some (.cells nilSet 117 (0, 0))) := heap_later hb2 rg
  have hrd1 := hrd.below hb1
  have hrs1 := hrs.below hb1
  have hrc1 := hrc.below hb1
  have hs1 := hb1.size
  clear t0 t1 rg hW hb hb2 hrc hrd hrs
  go_wp2_with fail
  refine (refClock_any _ c w1 hrc1).mono ?_
  rintro e w2 ⟨ok, F, rfl, hok, hF, hb2⟩
  have hb3 : Below w.heap.size w w2 := hb1.trans (hb2.mono hs1)
  have hs2 := hb3.size
  go_upto_region 3 with (first
    | (refine wpList_store_row rfl 241 _ _ rfl w2.heap.size (arr F) rfl rfl 241 (arr zF) (alloc_lit w2 (arr zF)) (by rw [arr_size]; exact info61) (by rw [arr_size, arr_size]) (one_arr _) ?_))
  obtain ⟨w3, hw3, hr3, hba⟩ : ∃ w3, ((w2.alloc (.cells (arr zF) 241)).setRow w2.heap.size (arr F)) = w3 ∧ w3.heap[w2.heap.size]? = some (.cells (arr F) 241 (0, 0)) ∧ Below w2.heap.size w2 w3 :=
    ⟨_, rfl, setRow_heap _ _ _ _ _ _ (alloc_lit w2 (arr zF)), below_setRow ((Below.refl _ _).alloc (Nat.le_refl _) _) (Nat.le_refl _) _⟩
  rw [zlit] at hw3
  rw [hw3]
  clear hw3
  have hb13 := hb2.trans (hba.mono hb2.size)
  have hb03 := hb3.trans (hba.mono hs2)
  have hs3 := hb03.size
  have f0 := cell_later hb13 e0
  have f1 := cell_later hb13 e1
  have HG3 : Hid (w3.heap[w.heap.size + 1]? = some (.cells nilSet 117 (0, 0))) := heap_later hb13 HG.out
  have hrd3 := hrd1.below hb13
  have hrs3 := hrs1.below hb13
  have hrc3 := hrc1.below hb13
  have HR3 : Hid (w3.heap[w2.heap.size]? = some (.cells (arr F) 241 (0, 0))) := hr3
  clear e0 e1 HG hrd1 hrs1 hrc1 hb2 hba hr3 hb13 hb1 hs1 hb3
  rcases (Classical.em (SetOK sc l)).symm with hk | hk
  · have hrf : r = false := by cases r with
      | false => rfl
      | true => exact absurd (hr.1 rfl) hk
    subst hrf
    have HN : Hid (¬ (SetOK sc l ∧ Clk c)) := fun h => hk h.1
    clear hr hk hok hF hrd3 hrs3 hrc3
    go_wp2_with (first
      | (refine wpList_store_row rfl 117 _ _ rfl (w.heap.size + 1) nilSet rfl rfl 117 nilSet HG3.out info38 rfl one_nilSet ?_))
    refine bodyPost_ret (results28 _ _ (w.heap.size + 1) _ _ 1 rfl rfl (setRow_heap _ _ _ _ _ _ HG3.out)) rfl ⟨below_setRow hb03 (by omega) _, .inl ⟨HN.out, rfl⟩⟩
  have hrt := hr.2 hk
  subst hrt
  have HK : Hid (SetOK sc l) := hk
  clear hr hk
  rcases (Classical.em (Clk c)).symm with hk | hk
  · have hrf : ok = false := by cases ok with
      | false => rfl
      | true => exact absurd (hok.1 rfl) hk
    subst hrf
    have HN : Hid (¬ (SetOK sc l ∧ Clk c)) := fun h => hk h.2
    clear hk hok hF hrd3 hrs3 hrc3
    go_wp2_with (first
      | (refine wpList_store_row rfl 117 _ _ rfl (w.heap.size + 1) nilSet rfl rfl 117 nilSet HG3.out info38 rfl one_nilSet ?_))
    refine bodyPost_ret (results28 _ _ (w.heap.size + 1) _ _ 1 rfl rfl (setRow_heap _ _ _ _ _ _ HG3.out)) rfl ⟨below_setRow hb03 (by omega) _, .inl ⟨HN.out, rfl⟩⟩
  have hrt := hok.2 hk
  subst hrt
  have HK2 : Hid (Clk c) := hk
  have HF : Hid (F = cN c) := hF rfl
  clear hok hk hF
  go_wp2_with fail
  refine (refJoin_any _ _ sc c w3 hrs3 hrc3).mono ?_
  rintro e w4 ⟨⟨hno, _⟩ | ⟨_, _, h8, rfl⟩ | ⟨_, _, h8, v4, rfl, ho⟩, hb4⟩
  · exact absurd hno (fun h => h.elim (fun h => h HK.out.1) (fun h => h HK2.out))
  · have hb04 := hb03.trans (hb4.mono hs3)
    have HG4 : Hid (w4.heap[w.heap.size + 1]? = some (.cells nilSet 117 (0, 0))) := heap_later hb4 HG3.out
    have H8 : Hid (8 < (jn [sc, c]).length) := h8
    clear h8 hb4 hrs3 hrc3 hrd3 HG3
    go_wp2_with (first
      | (refine wpList_store_row rfl 117 _ _ rfl (w.heap.size + 1) nilSet rfl rfl 117 nilSet HG4.out info38 rfl one_nilSet ?_))
    refine bodyPost_ret (results28 _ _ (w.heap.size + 1) _ _ 5 rfl rfl (setRow_heap _ _ _ _ _ _ HG4.out)) rfl ⟨below_setRow hb04 (by omega) _, .inr (.inl ⟨HK.out, HK2.out, H8.out, rfl⟩)⟩
  · have hb04 := hb03.trans (hb4.mono hs3)
    have hs4 := hb04.size
    have HG4 : Hid (w4.heap[w.heap.size + 1]? = some (.cells nilSet 117 (0, 0))) := heap_later hb4 HG3.out
    have HR4 : Hid (w4.heap[w2.heap.size]? = some (.cells (arr F) 241 (0, 0))) := heap_later hb4 HR3.out
    have H8 : Hid ((jn [sc, c]).length ≤ 8) := h8
    have g1 := cell_later hb4 f1
    have hrd4 := hrd3.below hb4
    have ho2 := own_base (B := w.heap.size) ho hs3
    obtain ⟨a4, cap4, rfl⟩ := own_shape ho2
    have HO : Hid (w4.ownsRow w.heap.size 183 2 (.slice a4 (jn [sc, c]).length cap4) (jn [sc, c]).length (cellsE (jn [sc, c]))) := ho2
    have HE : Hid (w4.cell? ⟨w.heap.size, 1, none⟩ = some (.slice a l.length cap)) := g1
    have hl6 := HK.out.2.1
    obtain ⟨a', cap', hv, _, _, hA⟩ := hrd4
    obtain ⟨rfl, -, rfl⟩ : a = a' ∧ l.length = l.length ∧ cap = cap' := by simpa using hv
    have HA : Hid (0 < l.length → ∃ b off, a = some ⟨b, off, none⟩ ∧ ∀ j, j < l.length → w4.cell? ⟨b, off + j * 3, none⟩ = some (.int .i64 (sb l j).n) ∧ w4.cell? ⟨b, off + j * 3 + 1, none⟩ = some (.int .i64 (sb l j).c) ∧ w4.cell? ⟨b, off + j * 3 + 2, none⟩ = some (.string (sb l j).v)) := hA
    obtain ⟨Jn, hJn⟩ : ∃ Jn, (jn [sc, c]).length = Jn := ⟨_, rfl⟩
    have HJN : Hid ((jn [sc, c]).length = Jn) := hJn
    rw [hJn]
    clear h8 hb4 hrs3 hrc3 hrd3 HG3 HR3 ho ho2 f0 f1 hA hv hJn
    go_upto_region 10 with fail
    clear g1
    go_loopw [12] (fun q wr => ∃ (k : Nat) (a5 : Option Addr) (cap5 : Nat), k ≤ l.length ∧ q = .int .i64 k ∧ wr.heap[w4.heap.size]? = some (.cells #[.slice a4 Jn cap4, .slice a5 (un c (l.take k)).length cap5] 117 (0, 0)) ∧
        wr.ownsRow w4.heap.size 122 3 (.slice a5 (un c (l.take k)).length cap5) (un c (l.take k)).length (cellsS (un c (l.take k))) ∧ Below w4.heap.size w4 wr)
      (fun q _ => l.length - (intOf q).toNat)
    case atStart => exact ⟨0, none, 0, Nat.zero_le _, rfl, heap_alloc_new w4 _, World.ownsRow_nil _ _ _ _, (Below.refl _ _).alloc (Nat.le_refl _) _⟩
    case round =>
      obtain ⟨k, a5, cap5, hk, rfl, hQ, ho5, hbr⟩ := hrel
      have hsz := hbr.size
      have g1 := cell_later hbr HE.out
      by_cases hlt : k < l.length
      · obtain ⟨b, off, rfl, hr⟩ := HA.out (by omega)
        have q1 : (k : Int) < (l.length : Int) := by omega
        have q0 : (0 : Int) ≤ (k : Int) := by omega
        have e0 := cell_later hbr (hr k hlt).1
        have e1 := cell_later hbr (hr k hlt).2.1
        have e2 := cell_later hbr (hr k hlt).2.2
        have hdot := (HK.out.2.2 k hlt).1
        obtain ⟨m, hm⟩ : ∃ m : Nat, (sb l k).n = m := ⟨(sb l k).n.toNat, by have := hdot.1; omega⟩
        have hm16 : m < 16 := by have := hdot.2.1; omega
        have c0 : wr.cell? ⟨w2.heap.size, m, none⟩ = some (.int .i64 (cS c (m : Int))) := by
          rw [cell_of_row _ _ _ _ _ _ (heap_later hbr HR4.out), arr_at _ _ hm16, HF.out]; rfl
        have hs := un_snoc c l k hlt
        have HXC : Hid (w4.cell? ⟨b, off + k * 3, none⟩ = some (.int .i64 (sb l k).n) ∧ w4.cell? ⟨b, off + k * 3 + 1, none⟩ = some (.int .i64 (sb l k).c) ∧ w4.cell? ⟨b, off + k * 3 + 2, none⟩ = some (.string (sb l k).v)) := hr k hlt
        have hnb : w4.heap.size ≠ b := Nat.ne_of_gt (World.block_lt_of_cell? w4 _ (hr k hlt).1)
        rw [hm] at hs e0 HXC
        have HS : Hid (un c (l.take (k + 1)) = if (sb l k).c ≤ cS c (m : Int) then un c (l.take k) else un c (l.take k) ++ [sb l k]) := hs
        obtain ⟨x, hx⟩ : ∃ x, sb l k = x := ⟨_, rfl⟩
        rw [hx] at e1 e2 HS hm HXC
        have HXN : Hid (x.n = m) := hm
        obtain ⟨Cm, hCm⟩ : ∃ Cm, cS c (m : Int) = Cm := ⟨_, rfl⟩
        rw [hCm] at c0 HS
        have hlen := un_len c l k
        obtain ⟨U, hU⟩ : ∃ U, un c (l.take k) = U := ⟨_, rfl⟩
        rw [hU] at ho5 hQ hlen HS
        obtain ⟨n5, hn5⟩ : ∃ n5, U.length = n5 := ⟨_, rfl⟩
        rw [hn5] at ho5 hQ hlen
        have HU5 : Hid (U.length = n5) := hn5
        have HHQ : Hid (wr.heap[w4.heap.size]? = some (.cells #[.slice a4 Jn cap4, .slice a5 n5 cap5] 117 (0, 0))) := hQ
        have HO5 : Hid (wr.ownsRow w4.heap.size 122 3 (.slice a5 n5 cap5) n5 (cellsS U)) := ho5
        clear hr hs hx hCm hU hn5 hQ ho5 hdot hm
        by_cases hsn : x.c ≤ Cm
        · have gd : ¬ Cm < x.c := by omega
          have HU : Hid (un c (l.take (k + 1)) = U) := by
            show _ = _
            rw [HS.out, if_pos hsn]
          clear hsn HS
          go_wp2_with fail
          go_quiet (fail)
          go_wp2
          go_roundw
          case rel => exact ⟨k + 1, a5, cap5, by omega, by go_num, by rw [HU.out, HU5.out]; exact HHQ.out, by rw [HU.out, HU5.out]; exact HO5.out, by repeat (first | exact hbr | refine below_drewN ?_ _ | refine Below.drew ?_)⟩
          case measure => simp [intOf]; omega
        · have gd : Cm < x.c := by omega
          have HU : Hid (un c (l.take (k + 1)) = U ++ [x]) := by
            show _ = _
            rw [HS.out, if_neg hsn]
          clear hsn HS
          go_wp2_with fail
          go_quiet (fail)
          obtain ⟨WD, hWD, hbD⟩ : ∃ WD, wr.drewN nq = WD ∧ Below wr.heap.size wr WD := ⟨_, rfl, below_drewN (Below.refl _ _) _⟩
          rw [hWD]
          have hbE := hbr.trans (hbD.mono hsz)
          have hsE := hbE.size
          have e0' := cell_later hbD e0
          have e1' := cell_later hbD e1
          have e2' := cell_later hbD e2
          have g1' := cell_later hbD g1
          have HHD : Hid (WD.heap[w4.heap.size]? = some (.cells #[.slice a4 Jn cap4, .slice a5 n5 cap5] 117 (0, 0))) := heap_later hbD HHQ.out
          have HOD : Hid (WD.ownsRow w4.heap.size 122 3 (.slice a5 n5 cap5) n5 (cellsS U)) := ownsRow_below HO5.out hbD
          have hQ1 : WD.cell? ⟨w4.heap.size, 1, none⟩ = some (.slice a5 n5 cap5) := by rw [cell_of_row _ _ _ _ _ _ HHD.out]; rfl
          have hal : ∀ o, Below WD.heap.size WD (WD.alloc o) := fun o => (Below.refl _ _).alloc (Nat.le_refl _) o
          have hQ2 : ∀ o, (WD.alloc o).cell? ⟨w4.heap.size, 1, none⟩ = some (.slice a5 n5 cap5) := fun o => cell_later (hal o) hQ1
          clear e0 e1 e2 g1 c0 hWD HHQ HO5
          have hnw : w4.heap.size ≠ w.heap.size := Nat.ne_of_gt (World.block_lt_of_cell? w4 _ HE.out)
          go_wp2_with fail
          go_region_law
            ((refine step_append_own rfl _ _ 115 rfl w4.heap.size 122 i0 (.agg #[.int .i64 0, .int .i64 0, .string ByteArray.empty]) 3 32 Tryz.underlying115 hi hz0 hz1 hz2 rfl (by decide) (.slice a5 n5 cap5) n5 (cellsS U) rfl (own_drew (HOD.out.alloc _)) ⟨WD.heap.size, 0, none⟩ 1 1 [.int .i64 (m : Int), .int .i64 x.c, .string x.v] rfl rfl (fun j u h => cells_three_new WD _ _ _ _ j u h) (by intro u hu; simp at hu; rcases hu with rfl | rfl | rfl <;> rfl) (by unfold maxLen; omega) (by omega) (by simp; omega) ?_;
              intro v7 w5 hown hgrow;
              obtain ⟨a7, cap7, rfl, hb5, hQ5, s1, s2, hs5⟩ := grow_pack (Below.drew (hbE.alloc hsE _)) (show (WD.alloc _).heap[_]? = _ from (Below.heap_alloc WD _ _ (Array.getElem?_eq_some_iff.1 HHD.out).1).trans HHD.out) (own_drew (HOD.out.alloc _)) hown hgrow;
              have HP : Hid (w5.ownsRow w4.heap.size 122 3 (.slice a7 (n5 + 1) cap7) (n5 + 1) (cellsS U ++ [.int .i64 (m : Int), .int .i64 x.c, .string x.v]) ∧ Below w4.heap.size w4 w5 ∧ w5.heap[w4.heap.size]? = some (.cells #[.slice a4 Jn cap4, .slice a5 n5 cap5] 117 (0, 0))) := ⟨hown, hb5, hQ5⟩;
              clear hown hgrow hQ5 hb5))
          all_goals
            go_wp2
            go_roundw
            case rel =>
              have hp := pack_end HP.out.2.1 HP.out.2.2 HP.out.1
              have e9 : (un c (l.take (k + 1))).length = n5 + 1 := by rw [HU.out, List.length_append, HU5.out]; rfl
              exact ⟨k + 1, a7, cap7, by omega, by go_num, by rw [e9]; exact hp.1, by rw [e9, HU.out, cellsS_snoc, HXN.out]; exact hp.2.1, hp.2.2⟩
            case measure => simp [intOf]; omega
      · have he : k = l.length := by omega
        subst he
        rw [List.take_length] at hQ ho5
        have HGr : Hid (wr.heap[w.heap.size + 1]? = some (.cells nilSet 117 (0, 0))) := heap_later hbr HG4.out
        have z0 : wr.cell? ⟨w4.heap.size, 0, none⟩ = some (.slice a4 Jn cap4) := by rw [cell_of_row _ _ _ _ _ _ hQ]; rfl
        have z1 : wr.cell? ⟨w4.heap.size, 1, none⟩ = some (.slice a5 (un c l).length cap5) := by rw [cell_of_row _ _ _ _ _ _ hQ]; rfl
        have HO5 : Hid (wr.ownsRow w4.heap.size 122 3 (.slice a5 (un c l).length cap5) (un c l).length (cellsS (un c l))) := ho5
        have HB9 : Hid (Below w.heap.size w wr) := hb04.trans (hbr.mono hs4)
        have HO4 : Hid (wr.ownsRow w.heap.size 183 2 (.slice a4 Jn cap4) Jn (cellsE (jn [sc, c]))) := by
          have h := ownsRow_below HO.out hbr
          rw [HJN.out] at h
          exact h
        clear hQ ho5 HA hi hz0 hz1 hz2
        go_wp2_with (first
          | (refine wpList_store_row rfl 117 _ _ rfl (w.heap.size + 1) #[.slice a4 Jn cap4, .slice a5 (un c l).length cap5] rfl rfl 117 nilSet HGr.out info38 rfl (one_two _ _ _ _ _ _) ?_))
        refine bodyPost_ret (results28 _ _ (w.heap.size + 1) _ _ 0 rfl rfl (setRow_heap _ _ _ _ _ _ HGr.out)) rfl ⟨below_setRow HB9.out (by omega) _, .inr (.inr ⟨HK.out, HK2.out, H8.out, _, _, rfl, ?_, ?_⟩)⟩
        · rw [HJN.out]
          exact own_setRow HO4.out HGr.out (by decide)
        · exact own_setRow (own_base HO5.out hs4) HGr.out (by decide)
end Go.Proofs.YtilkdeghknjjhaaGreatDoor
/- The plain facts behind the document's Update. -/
namespace Go.Proofs.YtilkdeghknjjhaaGreatDoor
open Go.RowKit M
set_option linter.unusedVariables false

theorem cd_trans {x y z : Sb} (h : cd x y < 0) (k : cd y z < 0) : cd x z < 0 := by
  rw [cd_neg] at *
  omega
theorem cd_irr (x : Sb) : ¬ cd x x < 0 := by
  rw [cd_neg]
  omega
theorem cd_tri {x y : Sb} (h : ¬ cd x y < 0) (hne : ¬ (x.n = y.n ∧ x.c = y.c)) : cd y x < 0 := by
  rw [cd_neg] at *
  omega
theorem UpS.lt {c : List (Int × Int)} {l : List Sb} (h : UpS c l l.length) (i : Nat) : ∀ d, i + d + 1 < l.length → cd (sb l i) (sb l (i + d + 1)) < 0
  | 0, hd => by have := (h (i + 1) hd).2.2.2 (by omega); simpa using this
  | d + 1, hd => by
    have a := UpS.lt h i d (by omega)
    have b := (h (i + (d + 1) + 1) hd).2.2.2 (by omega)
    rw [show i + (d + 1) + 1 - 1 = i + d + 1 by omega] at b
    exact cd_trans a b
theorem UpS.pw {c : List (Int × Int)} {l : List Sb} (h : UpS c l l.length) : l.Pairwise (fun x y => cd x y < 0) := by
  refine List.pairwise_iff_getElem.2 fun i j hi hj hij => ?_
  obtain ⟨d, rfl⟩ : ∃ d, j = i + d + 1 := ⟨j - i - 1, by omega⟩
  have := h.lt i d hj
  rw [sb_get l i hi, sb_get l _ hj] at this
  exact this
theorem place_fn {U : List Sb} {x : Sb} {p q : Nat} (hs : U.Pairwise (fun x y => cd x y < 0)) (hp : Place U x p) (hq : Place U x q) : p = q := by
  have key : ∀ p q, Place U x p → Place U x q → ¬ p < q := by
    intro p q hp hq hlt
    have h1 := hp.2.2 (by have := hq.1; omega)
    have h2 := hq.2.1 (by omega)
    have hpl : p < U.length := by have := hq.1; omega
    have hql : q - 1 < U.length := by have := hq.1; omega
    by_cases e : p = q - 1
    · rw [e] at h1; omega
    · have h3 := List.pairwise_iff_getElem.1 hs p (q - 1) hpl hql (by omega)
      rw [sb_get U _ hpl] at h1
      rw [sb_get U _ hql] at h2
      have := cd_trans h3 h2
      omega
  have a := key p q hp hq
  have b := key q p hq hp
  omega
theorem un_append (c : List (Int × Int)) (a b : List Sb) : un c (a ++ b) = un c a ++ un c b := by simp [un]
theorem un_pw {c : List (Int × Int)} {l : List Sb} (h : l.Pairwise (fun x y => cd x y < 0)) : (un c l).Pairwise (fun x y => cd x y < 0) := h.filter _

/-- What the document's Update has built behind some of the values, and whether the new one is in. -/
def st (c : List (Int × Int)) (x : Sb) (l : List Sb) : Nat → List Sb × Bool
  | 0 => ([], false)
  | i + 1 =>
    (if (sb l i).c ≤ cS c (sb l i).n then (if (!(st c x l i).2 && decide (cd x (sb l i) < 0)) = true then (st c x l i).1 ++ [x] else (st c x l i).1)
      else (if (!(st c x l i).2 && decide (cd x (sb l i) < 0)) = true then (st c x l i).1 ++ [x] else (st c x l i).1) ++ [sb l i],
      (st c x l i).2 || (!(st c x l i).2 && decide (cd x (sb l i) < 0)))
theorem st_len (c : List (Int × Int)) (x : Sb) (l : List Sb) : ∀ i, (st c x l i).1.length + (if (st c x l i).2 = true then 0 else 1) ≤ i + 1
  | 0 => by simp [st]
  | i + 1 => by
    have ih := st_len c x l i
    unfold st
    cases hb : (st c x l i).2
    · rw [hb] at ih
      simp only [Bool.not_false, Bool.true_and, Bool.false_or]
      by_cases h1 : cd x (sb l i) < 0 <;> by_cases h2 : (sb l i).c ≤ cS c (sb l i).n <;> simp [h1, h2] at ih ⊢ <;> omega
    · rw [hb] at ih
      simp only [Bool.not_true, Bool.false_and, Bool.true_or]
      by_cases h2 : (sb l i).c ≤ cS c (sb l i).n <;> simp [h2] at ih ⊢ <;> omega
theorem take_snocS (l : List Sb) (k : Nat) (h : k < l.length) : l.take (k + 1) = l.take k ++ [sb l k] := by
  rw [List.take_succ_eq_append_getElem h, sb_get l k h]
theorem st_form (c : List (Int × Int)) (x : Sb) (l : List Sb) : ∀ i, i ≤ l.length →
    ((st c x l i).2 = false → (st c x l i).1 = un c (l.take i) ∧ ∀ t, t < i → ¬ cd x (sb l t) < 0) ∧
    ((st c x l i).2 = true → ∃ j, j < i ∧ (∀ t, t < j → ¬ cd x (sb l t) < 0) ∧ cd x (sb l j) < 0 ∧ (st c x l i).1 = un c (l.take j) ++ x :: un c ((l.take i).drop j))
  | 0, _ => by simp [st, un]
  | i + 1, hi => by
    have ih := st_form c x l i (by omega)
    have hs := un_snoc c l i (by omega)
    have ht := take_snocS l i (by omega)
    cases hb : (st c x l i).2
    · obtain ⟨h1, h2⟩ := ih.1 hb
      by_cases h3 : cd x (sb l i) < 0
      · refine ⟨fun h => ?_, fun _ => ⟨i, by omega, h2, h3, ?_⟩⟩
        · simp [st, hb, h3] at h
        · have hd : (l.take (i + 1)).drop i = [sb l i] := by
            rw [ht, List.drop_append_of_le_length (by simp; omega), List.drop_eq_nil_of_le (by simp; omega)]; rfl
          rw [hd]
          unfold st
          simp only [hb, Bool.not_false, Bool.true_and, h3, decide_true, if_true]
          rw [h1]
          by_cases h4 : (sb l i).c ≤ cS c (sb l i).n
          · rw [if_pos h4]; simp [un, h4]
          · rw [if_neg h4]; simp [un, h4]
      · refine ⟨fun _ => ⟨?_, fun t ht2 => ?_⟩, fun h => ?_⟩
        · unfold st
          simp only [hb, Bool.not_false, Bool.true_and, h3, decide_false, Bool.false_eq_true, if_false]
          rw [hs, h1]
        · by_cases e : t = i
          · rw [e]; exact h3
          · exact h2 t (by omega)
        · simp [st, hb, h3] at h
    · obtain ⟨j, hj, h2, h3, h4⟩ := ih.2 hb
      refine ⟨fun h => ?_, fun _ => ⟨j, by omega, h2, h3, ?_⟩⟩
      · simp [st, hb] at h
      · have hd : (l.take (i + 1)).drop j = (l.take i).drop j ++ [sb l i] := by
          rw [ht, List.drop_append_of_le_length (by simp; omega)]
        rw [hd, un_append]
        unfold st
        simp only [hb, Bool.not_true, Bool.false_and, Bool.false_eq_true, if_false]
        rw [h4]
        by_cases h5 : (sb l i).c ≤ cS c (sb l i).n
        · rw [if_pos h5]; simp [un, h5]
        · rw [if_neg h5]; simp [un, h5]
/-- What it ends with. -/
def stEnd (c : List (Int × Int)) (x : Sb) (l : List Sb) : List Sb := if (st c x l l.length).2 = true then (st c x l l.length).1 else (st c x l l.length).1 ++ [x]
theorem mem_sb {l : List Sb} {y : Sb} (h : y ∈ l) : ∃ t, t < l.length ∧ sb l t = y := by
  obtain ⟨t, ht, rfl⟩ := List.getElem_of_mem h
  exact ⟨t, ht, sb_get l t ht⟩
theorem stEnd_put {sc c : List (Int × Int)} {l : List Sb} {x : Sb} (hs : SetOK sc l) (hx : ¬ x.c ≤ cS sc x.n) : ∃ p, Place (un c l) x p ∧ stEnd c x l = put (un c l) p x := by
  have hf := st_form c x l l.length (Nat.le_refl _)
  have key : ∀ j, j ≤ l.length → (∀ t, t < j → ¬ cd x (sb l t) < 0) → (j < l.length → cd x (sb l j) < 0) → stEnd c x l = un c (l.take j) ++ x :: un c (l.drop j) → ∃ p, Place (un c l) x p ∧ stEnd c x l = put (un c l) p x := by
    intro j hj h1 h2 h3
    have hU : un c l = un c (l.take j) ++ un c (l.drop j) := by rw [← un_append, List.take_append_drop]
    have hput : put (un c l) (un c (l.take j)).length x = un c (l.take j) ++ x :: un c (l.drop j) := by
      unfold put
      rw [hU, List.take_left, List.drop_left]
    refine ⟨(un c (l.take j)).length, ⟨by rw [hU]; simp, fun h0 => ?_, fun h0 => ?_⟩, by rw [h3, hput]⟩
    · have hm : sb (un c l) ((un c (l.take j)).length - 1) ∈ un c (l.take j) := by
        rw [sb_get _ _ (by rw [hU]; simp; omega)]
        simp only [hU]
        rw [List.getElem_append_left (by omega)]
        exact List.getElem_mem _
      obtain ⟨t, ht, he⟩ := mem_sb (List.mem_filter.1 hm).1
      have htj : t < j := by rw [List.length_take] at ht; omega
      have he2 : sb (l.take j) t = sb l t := by simp [sb, List.getD, htj]
      rw [he2] at he
      rw [← he]
      refine cd_tri (h1 t htj) (fun hh => ?_)
      have := (hs.2.2 t (by omega)).2.1
      rw [← hh.1, ← hh.2] at this
      exact hx this
    · have hm : sb (un c l) (un c (l.take j)).length ∈ un c (l.drop j) := by
        rw [sb_get _ _ h0]
        simp only [hU]
        rw [List.getElem_append_right (Nat.le_refl _)]
        exact List.getElem_mem _
      obtain ⟨t, ht, he⟩ := mem_sb (List.mem_filter.1 hm).1
      rw [List.length_drop] at ht
      have he2 : sb (l.drop j) t = sb l (j + t) := by simp [sb, List.getD]
      rw [he2] at he
      rw [← he]
      have h4 : cd x (sb l (j + t)) < 0 := by
        by_cases e : t = 0
        · subst e; exact h2 (by omega)
        · obtain ⟨d, hd⟩ : ∃ d, j + t = j + d + 1 := ⟨t - 1, by omega⟩
          rw [hd]
          exact cd_trans (h2 (by omega)) (UpS.lt hs.2.2 j d (by omega))
      rcases Int.lt_or_le (cd (sb l (j + t)) x) 0 with h5 | h5
      · exact absurd (cd_trans h4 h5) (cd_irr x)
      · exact h5
  cases hb : (st c x l l.length).2
  · obtain ⟨h1, h2⟩ := hf.1 hb
    refine key l.length (Nat.le_refl _) h2 (fun h => absurd h (Nat.lt_irrefl _)) ?_
    unfold stEnd
    rw [hb, h1]
    simp [un]
  · obtain ⟨j, hj, h1, h2, h3⟩ := hf.2 hb
    refine key j (by omega) h1 (fun _ => h2) ?_
    unfold stEnd
    rw [hb, if_pos rfl, h3, List.take_length]
theorem stEnd_len {sc c : List (Int × Int)} {l : List Sb} {x : Sb} (hs : SetOK sc l) (hx : ¬ x.c ≤ cS sc x.n) : (stEnd c x l).length = (un c l).length + 1 := by
  obtain ⟨p, hp, he⟩ := stEnd_put (c := c) hs hx
  rw [he, put_len _ _ _ hp.1]
/-- The counts behind an update. -/
def upF (sc c : List (Int × Int)) (n : Nat) (k : Int) : Nat → Int := fun m => if m = n then k else bth (cN c) (cN sc) 16 m
theorem upF_jn {sc c : List (Int × Int)} {n : Nat} {k : Int} (hs : US sc) (hc : US c) (hd : Dot (n : Int) k) (h1 : ¬ k ≤ cS sc n) (h2 : ¬ k ≤ cS c n) : entsTo (upF sc c n k) 16 = jn [sc, c, [((n : Int), k)]] := by
  have e : ∀ m, m < 16 → upF sc c n k m = apAll [sc, c, [((n : Int), k)]] [sc, c, [((n : Int), k)]].length m := by
    intro m hm
    rw [apAll_eq]
    unfold upF bth cN
    have a1 := cS_nonneg sc m
    have a2 := cS_nonneg c m
    have hk := hd.2.2.1
    simp only [List.length_cons, List.length_nil, mxS, List.getD_cons_succ, List.getD_cons_zero, cS]
    by_cases hmn : m = n
    · subst hmn
      simp only [if_true]
      omega
    · rw [if_neg hmn, if_pos hm, if_neg (by omega)]
      omega
  have key : ∀ (F G : Nat → Int) k, (∀ n, n < k → F n = G n) → entsTo F k = entsTo G k := by
    intro F G k
    induction k with
    | zero => intro _; rfl
    | succ k ih =>
      intro h
      unfold entsTo
      rw [ih (fun n hn => h n (by omega)), h k (by omega)]
  exact key _ _ 16 e
end Go.Proofs.YtilkdeghknjjhaaGreatDoor
