/- The walk of Sets. -/
import Derived.Test.YtkiipmdplpcfeaaSH
import Derived.WalkKit
import Derived.WalkSpells
import Derived.WalkLawsBesides
import Derived.Deep.Cut
import Derived.Deep.CutRange
import Derived.Deep.DeepCutAuto
namespace Go.Proofs.Ytkiipmdplpcfeaa
open Go.RowKit M
set_option linter.unusedVariables false

theorem given_u (vs v : Value) (sc : List (Int × Int)) (l : List Sb) (w : World) (hrs : Rd w vs sc) (hrd : RdS w v l) (hbs : sc.length ≤ 8796093022208) (hbl : l.length ≤ 4398046511104) :
    Calls Try.prog 22 #[.agg #[vs, v]] w fun e w' => ∃ g1 g2, e = .returned (.agg #[.slice (some ⟨g1, 0, none⟩) sc.length (sc.length + 2), .slice (some ⟨g2, 0, none⟩) l.length (l.length + 2)]) ∧ Hd w' (.slice (some ⟨g1, 0, none⟩) sc.length (sc.length + 2)) sc ∧ HdS w' (.slice (some ⟨g2, 0, none⟩) l.length (l.length + 2)) l ∧ Below w.heap.size w w' :=
  (given_any vs v sc l w hrs hrd hbs hbl).mono fun e w' ⟨r1, r2, he, h1, h2, hb⟩ => by
    obtain ⟨g1, rfl, k1⟩ := h1
    obtain ⟨g2, rfl, k2⟩ := h2
    exact ⟨g1, g2, he, ⟨g1, rfl, k1⟩, ⟨g2, rfl, k2⟩, hb⟩
theorem handed_u (v : Value) (l : List (Int × Int)) (w : World) (hrd : Rd w v l) (hbig : l.length ≤ 8796093022208) :
    Calls Try.prog 8 #[v] w fun e w' => ∃ g, e = .returned (.slice (some ⟨g, 0, none⟩) l.length (l.length + 2)) ∧ Hd w' (.slice (some ⟨g, 0, none⟩) l.length (l.length + 2)) l ∧ Below w.heap.size w w' :=
  (handed_any v l w hrd hbig).mono fun e w' ⟨g, he, _, hh, hb⟩ => ⟨g, he, ⟨g, rfl, hh⟩, hb⟩
theorem bare_u (v u : Value) (l : List (Int × Int)) (w : World) (hv : Hd w v l) (hu : Rd w u l) (hl : l.length ≤ 8796093022208) :
    Calls Try.prog 9 #[v, u] w fun e w' => ∃ p q, e = .returned (.slice p l.length q) ∧ Rd w (.slice p l.length q) l ∧ w' = w :=
  (bare_rd v u l w hv hu hl).mono fun e w' ⟨r, he, hr, hw⟩ => by
    obtain ⟨p, q, rfl⟩ := hr.shape
    exact ⟨p, q, he, hr, hw⟩

set_option maxRecDepth 40000 in
set_option maxHeartbeats 3200000 in
theorem Sets_any (vs v vc : Value) (sc c : List (Int × Int)) (l : List Sb) (n k : Int) (s : ByteArray) (w : World) (hrs : Rd w vs sc) (hrd : RdS w v l) (hrc : Rd w vc c) (hbs : sc.length ≤ 8796093022208) (hbl : l.length ≤ 4398046511104) (hbc : c.length ≤ 8796093022208) :
    Calls Try.prog 4 #[.agg #[vs, v], vc, .int .i64 n, .int .i64 k, .string s] w fun e w' => e = .returned (.bool true) ∧ Below w.heap.size w w' := by
  have HBD : Hid (sc.length ≤ 8796093022208 ∧ l.length ≤ 4398046511104 ∧ c.length ≤ 8796093022208) := ⟨hbs, hbl, hbc⟩
  obtain ⟨ps, qs, rfl⟩ := hrs.shape
  obtain ⟨a, cap, rfl⟩ := hrd.shape
  obtain ⟨pc, qc, rfl⟩ := hrc.shape
  clear hbs hbl hbc
  go_enter Try.func4, Try.ntmps4
  go_wp2_with fail
  obtain ⟨W, hW, hb, t0, t1⟩ : ∃ W, (w.alloc (.cells #[.slice ps sc.length qs, .slice a l.length cap] 38)) = W ∧ Below w.heap.size w W ∧
      W.cell? ⟨w.heap.size, 0, none⟩ = some (.slice ps sc.length qs) ∧ W.cell? ⟨w.heap.size, 1, none⟩ = some (.slice a l.length cap) :=
    ⟨_, rfl, (Below.refl _ _).alloc (Nat.le_refl _) _, by simp [go_sem], by simp [go_sem]⟩
  rw [hW]
  have hsW := hb.size
  refine (given_u _ _ sc l W (hrs.below hb) (hrd.below hb) HBD.out.1 HBD.out.2.1).mono ?_
  rintro e w1 ⟨g1, g2, rfl, hd1, hd2, hb1⟩
  have hb01 := hb.trans (hb1.mono hsW)
  have hs1 := hb01.size
  have e0 := cell_later hb1 t0
  have e1 := cell_later hb1 t1
  have hrs1 := hrs.below hb01
  have hrd1 := hrd.below hb01
  have hrc1 := hrc.below hb01
  clear t0 t1 hW hb hb1 hrs hrd hrc hsW
  go_upto_region 2 with fail
  obtain ⟨w2, hw2, hb2, u0, u1⟩ : ∃ w2, (w1.alloc (.cells #[.slice (some ⟨g1, 0, none⟩) sc.length (sc.length + 2), .slice (some ⟨g2, 0, none⟩) l.length (l.length + 2)] 38)) = w2 ∧ Below w1.heap.size w1 w2 ∧
      w2.cell? ⟨w1.heap.size, 0, none⟩ = some (.slice (some ⟨g1, 0, none⟩) sc.length (sc.length + 2)) ∧ w2.cell? ⟨w1.heap.size, 1, none⟩ = some (.slice (some ⟨g2, 0, none⟩) l.length (l.length + 2)) :=
    ⟨_, rfl, (Below.refl _ _).alloc (Nat.le_refl _) _, by simp [go_sem], by simp [go_sem]⟩
  rw [hw2]
  clear hw2
  go_wp2_with fail
  refine (handed_u _ c w2 (hrc1.below hb2) HBD.out.2.2).mono ?_
  rintro e w3 ⟨g3, rfl, hx, hb3⟩
  have hb13 := hb2.trans (hb3.mono hb2.size)
  have hb03 := hb01.trans (hb13.mono hs1)
  have hs3 := hb03.size
  have f0 := cell_later hb13 e0
  have f1 := cell_later hb13 e1
  have d0 := cell_later hb3 u0
  have d1 := cell_later hb3 u1
  have hrs3 := hrs1.below hb13
  have hrd3 := hrd1.below hb13
  have hrc3 := hrc1.below hb13
  have hd13 := hd1.below hb13
  have hd23 := hd2.below hb13
  clear e0 e1 u0 u1 hb2 hb3 hrs1 hrd1 hrc1 hd1 hd2 hb01 hb13
  go_wp2_with fail
  refine (bare_u _ _ c w3 hx hrc3 HBD.out.2.2).mono ?_
  rintro e w3 ⟨px, qx, rfl, hxc, rfl⟩
  go_upto_region 5 with fail
  obtain ⟨w4, hw4, hb4, m0⟩ : ∃ w4, (w3.alloc (.cells #[.slice (some ⟨g1, 0, none⟩) sc.length (sc.length + 2), .slice (some ⟨g2, 0, none⟩) l.length (l.length + 2)] 38)) = w4 ∧ Below w3.heap.size w3 w4 ∧
      w4.heap[w3.heap.size]? = some (.cells #[.slice (some ⟨g1, 0, none⟩) sc.length (sc.length + 2), .slice (some ⟨g2, 0, none⟩) l.length (l.length + 2)] 38 (0, 0)) :=
    ⟨_, rfl, (Below.refl _ _).alloc (Nat.le_refl _) _, heap_alloc_new w3 _⟩
  rw [hw4]
  have f0' := cell_later hb4 f0
  have f1' := cell_later hb4 f1
  have d0' := cell_later hb4 d0
  have j0 : w4.cell? ⟨w3.heap.size, 0, none⟩ = some (.slice (some ⟨g1, 0, none⟩) sc.length (sc.length + 2)) := by rw [cell_of_row _ _ _ _ _ _ m0]; rfl
  have z0 : w4.frozen? ⟨w3.heap.size, 0, none⟩ = false := frozen_of_row _ _ _ _ _ m0
  have HM : Hid (w4.heap[w3.heap.size]? = some (.cells #[.slice (some ⟨g1, 0, none⟩) sc.length (sc.length + 2), .slice (some ⟨g2, 0, none⟩) l.length (l.length + 2)] 38 (0, 0))) := m0
  have HBASE : Hid (Rd w3 (.slice ps sc.length qs) sc ∧ RdS w3 (.slice a l.length cap) l ∧ Rd w3 (.slice pc c.length qc) c ∧ Hd w3 (.slice (some ⟨g1, 0, none⟩) sc.length (sc.length + 2)) sc ∧ HdS w3 (.slice (some ⟨g2, 0, none⟩) l.length (l.length + 2)) l ∧ Hd w3 (.slice (some ⟨g3, 0, none⟩) c.length (c.length + 2)) c ∧ Rd w3 (.slice px c.length qx) c) := ⟨hrs3, hrd3, hrc3, hd13, hd23, hx, hxc⟩
  have HCELL : Hid (w3.cell? ⟨w.heap.size, 0, none⟩ = some (.slice ps sc.length qs) ∧ w3.cell? ⟨w.heap.size, 1, none⟩ = some (.slice a l.length cap) ∧ w3.cell? ⟨w1.heap.size, 0, none⟩ = some (.slice (some ⟨g1, 0, none⟩) sc.length (sc.length + 2)) ∧ w3.cell? ⟨w1.heap.size, 1, none⟩ = some (.slice (some ⟨g2, 0, none⟩) l.length (l.length + 2))) := ⟨f0, f1, d0, d1⟩
  have hs34 := hb4.size
  clear f0 f1 d0 d1 m0 hw4 hrs3 hrd3 hrc3 hd13 hd23 hx hxc
  go_wp2_with fail
  refine (bare_u _ _ sc w4 (HBASE.out.2.2.2.1.below hb4) (HBASE.out.1.below hb4) HBD.out.1).mono ?_
  rintro e w4 ⟨pa, qa, rfl, hra, rfl⟩
  go_upto_region 6 with fail
  obtain ⟨w5, hw5, hb5, hrow5⟩ : ∃ w5, (w4.setCell ⟨w3.heap.size, 0, none⟩ (.slice pa sc.length qa)) = w5 ∧ Below w3.heap.size w3 w5 ∧
      w5.heap[w3.heap.size]? = some (.cells #[.slice pa sc.length qa, .slice (some ⟨g2, 0, none⟩) l.length (l.length + 2)] 38 (0, 0)) :=
    ⟨_, rfl, hb4.setCell (Nat.le_refl _) _, by rw [heap_setCell_same _ _ _ _ _ _ HM.out]; rfl⟩
  rw [hw5]
  have f1 := cell_later hb5 HCELL.out.2.1
  have hra5 : Rd w5 (.slice pa sc.length qa) sc := by
    rw [← hw5]
    obtain ⟨a9, c9, hv9, hl9, hc9, h09⟩ := hra
    refine ⟨a9, c9, hv9, hl9, hc9, fun hp => ?_⟩
    obtain ⟨b, off, ha, hr⟩ := h09 hp
    refine ⟨b, off, ha, fun j hj => ?_⟩
    have far : ∀ o u, w4.cell? ⟨b, o, none⟩ = some u → u ≠ .slice (some ⟨g1, 0, none⟩) sc.length (sc.length + 2) → (w4.setCell ⟨w3.heap.size, 0, none⟩ (.slice pa sc.length qa)).cell? ⟨b, o, none⟩ = some u := by
      intro o u hu hne
      rw [World.cell?_setCell_other w4 ⟨w3.heap.size, 0, none⟩ ⟨b, o, none⟩ _ (fun e => by
        cases e
        rw [j0] at hu
        exact hne (Option.some.inj hu).symm)]
      exact hu
    exact ⟨far _ _ (hr j hj).1 (by simp), far _ _ (hr j hj).2 (by simp)⟩
  have HR5 : Hid (w5.heap[w3.heap.size]? = some (.cells #[.slice pa sc.length qa, .slice (some ⟨g2, 0, none⟩) l.length (l.length + 2)] 38 (0, 0)) ∧ Below w3.heap.size w3 w5 ∧ Rd w5 (.slice pa sc.length qa) sc) := ⟨hrow5, hb5, hra5⟩
  clear hw5 j0 z0 d0' f0' f1' HM hra hra5 hb4 hs34 hrow5 hb5
  go_cut [51] from 49 to 51 (fun s51 wx => w5 = wx ∧ ∃ b : Bool, s51 = .bool b ∧ (b = true → l = []))
  case first =>
    have hnone : a = none → l = [] := by
      intro h
      obtain ⟨a9, c9, hv9, _, _, h09⟩ := HBASE.out.2.1
      simp at hv9
      by_cases hp : 0 < l.length
      · obtain ⟨b, off, ha, _⟩ := h09 hp
        rw [← hv9.1, h] at ha
        cases ha
      · exact List.eq_nil_of_length_eq_zero (by omega)
    have HN : Hid (a = none → l = []) := hnone
    clear hnone
    cases a with
    | none =>
      have kq := fun w => Lib.run_eql_slice_nil (P := Try.prog) w 36 57 none l.length cap 0 0 Try.underlying36
      go_wp2_with fail
      go_meet
      exact ⟨rfl, true, rfl, fun _ => HN.out (by simp)⟩
    | some ad =>
      have kq := fun w => Lib.run_eql_slice_nil (P := Try.prog) w 36 57 (some ad) l.length cap 0 0 Try.underlying36
      go_wp2_with fail
      go_meet
      exact ⟨rfl, false, rfl, fun h => Bool.noConfusion h⟩
  case rest =>
  obtain ⟨rfl, b, rfl, hbn⟩ := hcut
  have HBN : Hid (b = true → l = []) := hbn
  have j1 : w5.cell? ⟨w3.heap.size, 1, none⟩ = some (.slice (some ⟨g2, 0, none⟩) l.length (l.length + 2)) := by rw [cell_of_row _ _ _ _ _ _ HR5.out.1]; rfl
  have z1 : w5.frozen? ⟨w3.heap.size, 1, none⟩ = false := frozen_of_row _ _ _ _ _ HR5.out.1
  clear hbn f1
  go_upto_if 51 with fail
  go_cut [] from 52 to 52 (fun wx => Hid (∃ p6 q6, wx.heap[w3.heap.size]? = some (.cells #[.slice pa sc.length qa, .slice p6 l.length q6] 38 (0, 0)) ∧ RdS wx (.slice p6 l.length q6) l ∧ Rd wx (.slice pa sc.length qa) sc ∧ Below w3.heap.size w3 wx))
  case first =>
    cases b
    · clear j1 z1
      go_wp2_with fail
      go_meet
      exact ⟨_, _, HR5.out.1, (HBASE.out.2.2.2.2.1.below HR5.out.2.1).rd HBD.out.2.1, HR5.out.2.2, HR5.out.2.1⟩
    · have hl0 : l = [] := HBN.out rfl
      subst hl0
      have HJ : Hid (w5.cell? ⟨w3.heap.size, 1, none⟩ = some (.slice (some ⟨g2, 0, none⟩) 0 2)) := j1
      go_wp2_with fail
      go_meet
      refine ⟨none, 0, ?_, RdS.nil _, ?_, HR5.out.2.1.setCell (Nat.le_refl _) _⟩
      · rw [heap_setCell_same _ _ _ _ _ _ HR5.out.1]; rfl
      · obtain ⟨a9, c9, hv9, hl9, hc9, h09⟩ := HR5.out.2.2
        refine ⟨a9, c9, hv9, hl9, hc9, fun hp => ?_⟩
        obtain ⟨b, off, ha, hr⟩ := h09 hp
        refine ⟨b, off, ha, fun j hj => ?_⟩
        have far : ∀ o u, w5.cell? ⟨b, o, none⟩ = some u → u ≠ .slice (some ⟨g2, 0, none⟩) 0 2 → (w5.setCell ⟨w3.heap.size, 1, none⟩ (.slice none 0 0)).cell? ⟨b, o, none⟩ = some u := by
          intro o u hu hne
          rw [World.cell?_setCell_other w5 ⟨w3.heap.size, 1, none⟩ ⟨b, o, none⟩ _ (fun e => by
            cases e
            rw [HJ.out] at hu
            exact hne (Option.some.inj hu).symm)]
          exact hu
        exact ⟨far _ _ (hr j hj).1 (by simp), far _ _ (hr j hj).2 (by simp)⟩
  case rest =>
  clear j1 z1 HBN HR5
  obtain ⟨p6, q6, hrow, hr6, hra, hb3c⟩ := hcut.out
  have hbw := hb03.trans (hb3c.mono hs3)
  have hsw := hbw.size
  have HF : Hid (Rd wc (.slice ps sc.length qs) sc ∧ RdS wc (.slice a l.length cap) l ∧ Rd wc (.slice pc c.length qc) c ∧ Hd wc (.slice (some ⟨g1, 0, none⟩) sc.length (sc.length + 2)) sc ∧ HdS wc (.slice (some ⟨g2, 0, none⟩) l.length (l.length + 2)) l ∧ Hd wc (.slice (some ⟨g3, 0, none⟩) c.length (c.length + 2)) c ∧ Rd wc (.slice px c.length qx) c ∧ Rd wc (.slice pa sc.length qa) sc ∧ RdS wc (.slice p6 l.length q6) l) :=
    ⟨HBASE.out.1.below hb3c, HBASE.out.2.1.below hb3c, HBASE.out.2.2.1.below hb3c, HBASE.out.2.2.2.1.below hb3c, HBASE.out.2.2.2.2.1.below hb3c, HBASE.out.2.2.2.2.2.1.below hb3c, HBASE.out.2.2.2.2.2.2.below hb3c, hra, hr6⟩
  have a0 : wc.cell? ⟨w3.heap.size, 0, none⟩ = some (.slice pa sc.length qa) := by rw [cell_of_row _ _ _ _ _ _ hrow]; rfl
  have a1 : wc.cell? ⟨w3.heap.size, 1, none⟩ = some (.slice p6 l.length q6) := by rw [cell_of_row _ _ _ _ _ _ hrow]; rfl
  have HC : Hid (wc.cell? ⟨w.heap.size, 0, none⟩ = some (.slice ps sc.length qs) ∧ wc.cell? ⟨w.heap.size, 1, none⟩ = some (.slice a l.length cap) ∧ wc.cell? ⟨w1.heap.size, 0, none⟩ = some (.slice (some ⟨g1, 0, none⟩) sc.length (sc.length + 2)) ∧ wc.cell? ⟨w1.heap.size, 1, none⟩ = some (.slice (some ⟨g2, 0, none⟩) l.length (l.length + 2)) ∧
      wc.cell? ⟨w3.heap.size, 0, none⟩ = some (.slice pa sc.length qa) ∧ wc.cell? ⟨w3.heap.size, 1, none⟩ = some (.slice p6 l.length q6)) :=
    ⟨cell_later hb3c HCELL.out.1, cell_later hb3c HCELL.out.2.1, cell_later hb3c HCELL.out.2.2.1, cell_later hb3c HCELL.out.2.2.2, a0, a1⟩
  clear hrow hr6 hra hb3c hcut HBASE HCELL hb03 hs3 hs1
  go_wp2_with fail
  refine (Update_u _ _ _ sc c l n k s wc HF.out.2.2.2.2.2.2.2.1 HF.out.2.2.2.2.2.2.2.2 HF.out.2.2.2.2.2.2.1).mono ?_
  rintro e w6 ⟨u1, u2, C, L, e1, rfl, hR, o1, o2, G6⟩
  obtain ⟨x1, y1, rfl⟩ := own_shape o1
  obtain ⟨x2, y2, rfl⟩ := own_shape o2
  have HR : Hid (UpR sc c l n k s C L e1) := hR
  go_upto_region 9 with fail
  obtain ⟨w7, hw7, hU, G⟩ : ∃ w7, (w6.alloc (.cells #[.slice x1 C.length y1, .slice x2 L.length y2] 38)) = w7 ∧ SetRow w7 w6.heap.size wc.heap.size w6.heap.size (.slice x1 C.length y1) (.slice x2 L.length y2) C L ∧ Below wc.heap.size wc w7 :=
    ⟨_, rfl, SetRow.new o1 o2 G6.size, G6.alloc G6.size _⟩
  rw [hw7]
  have hs67 : w6.heap.size < w7.heap.size := (Array.getElem?_eq_some_iff.1 hU.row).1
  clear hw7 o1 o2 G6 a0 a1 hR
  have b0 := cell_later G HC.out.1
  have b1 := cell_later G HC.out.2.1
  go_wp2_with fail
  refine (refUpdate_u _ _ _ sc c l n k s w7 (HF.out.1.below G) (HF.out.2.1.below G) (HF.out.2.2.1.below G)).mono ?_
  rintro e w8 ⟨v1, v2, C', L', e1', rfl, hR', o1, o2, G8⟩
  obtain ⟨hC, hL, he⟩ := HR.out.fn hR'
  subst hC hL he
  obtain ⟨x3, y3, rfl⟩ := own_shape o1
  obtain ⟨x4, y4, rfl⟩ := own_shape o2
  have hU := hU.below G8
  have G := G.trans (G8.mono G.size)
  go_upto_region 10 with fail
  obtain ⟨w9, hw9, hV, G9⟩ : ∃ w9, (w8.alloc (.cells #[.slice x3 C'.length y3, .slice x4 L'.length y4] 38)) = w9 ∧ SetRow w9 w8.heap.size w7.heap.size w8.heap.size (.slice x3 C'.length y3) (.slice x4 L'.length y4) C' L' ∧ Below w8.heap.size w8 w9 :=
    ⟨_, rfl, SetRow.new o1 o2 G8.size, (Below.refl _ _).alloc (Nat.le_refl _) _⟩
  rw [hw9]
  have hs78 := G8.size
  have hs89 : w8.heap.size < w9.heap.size := (Array.getElem?_eq_some_iff.1 hV.row).1
  have hU := hU.below G9
  have G := G.trans (G9.mono G.size)
  clear hw9 o1 o2 G8 G9 b0 b1 hR'
  have c0 := hU.c0
  have c1 := hU.c1
  have c2 := hV.c0
  have c3 := hV.c1
  go_wp2_with fail
  refine (sameSet_yes _ _ _ _ _ _ w9 hU.rd1 hU.rd2 hV.rd1 hV.rd2).mono ?_
  rintro e w10 ⟨rfl, GA⟩
  have hU := hU.below GA
  have hV := hV.below GA
  have G := G.trans (GA.mono G.size)
  have hsA := GA.size
  clear GA c0 c1 c2 c3
  have c0 := hU.c0
  have c1 := hU.c1
  go_wp2_with fail
  refine (own_row (W := wc) (-2) hU HR.out.len.1 HR.out.len.2 G (Nat.le_refl _) G.size).mono ?_
  rintro e w11 ⟨rfl, hU', hO, G⟩
  have hV := hV.only hO hU.rng.1 hU.rng.2 (.inl (by omega))
  have hs11 := hO.size
  have hsc11 := G.size
  clear hU hO c0 c1
  have d0 := cell_later G HC.out.2.2.2.2.1
  have d1 := cell_later G HC.out.2.2.2.2.2
  go_wp2_with fail
  refine (Discard_u _ _ _ sc c l w11 (HF.out.2.2.2.2.2.2.2.1.below G) (HF.out.2.2.2.2.2.2.2.2.below G) (HF.out.2.2.2.2.2.2.1.below G)).mono ?_
  rintro e w12 ⟨v1, v2, D, M, e2, rfl, hR, o1, o2, G8⟩
  obtain ⟨x5, y5, rfl⟩ := own_shape o1
  obtain ⟨x6, y6, rfl⟩ := own_shape o2
  have HD : Hid (DsR sc c l D M e2) := hR
  have hU := hU'.below G8
  have hV := hV.below G8
  have G := G.trans (G8.mono G.size)
  go_upto_region 13 with fail
  obtain ⟨w13, hw13, hY, G9⟩ : ∃ w13, (w12.alloc (.cells #[.slice x5 D.length y5, .slice x6 M.length y6] 38)) = w13 ∧ SetRow w13 w12.heap.size w11.heap.size w12.heap.size (.slice x5 D.length y5) (.slice x6 M.length y6) D M ∧ Below w12.heap.size w12 w13 :=
    ⟨_, rfl, SetRow.new o1 o2 G8.size, (Below.refl _ _).alloc (Nat.le_refl _) _⟩
  rw [hw13]
  have hs12 := G8.size
  have hs13 : w12.heap.size < w13.heap.size := (Array.getElem?_eq_some_iff.1 hY.row).1
  have hU := hU.below G9
  have hV := hV.below G9
  have G := G.trans (G9.mono G.size)
  clear hw13 o1 o2 G8 G9 d0 d1 hR hU'
  have b0 := cell_later G HC.out.1
  have b1 := cell_later G HC.out.2.1
  go_wp2_with fail
  refine (refDiscard_u _ _ _ sc c l w13 (HF.out.1.below G) (HF.out.2.1.below G) (HF.out.2.2.1.below G)).mono ?_
  rintro e w14 ⟨v1, v2, D', M', e2', rfl, hR', o1, o2, G8⟩
  obtain ⟨hC, hL, he⟩ := HD.out.fn hR'
  subst hC hL he
  obtain ⟨x7, y7, rfl⟩ := own_shape o1
  obtain ⟨x8, y8, rfl⟩ := own_shape o2
  have hU := hU.below G8
  have hV := hV.below G8
  have hY := hY.below G8
  have G := G.trans (G8.mono G.size)
  go_upto_region 14 with fail
  obtain ⟨w15, hw15, hZ, G9⟩ : ∃ w15, (w14.alloc (.cells #[.slice x7 D'.length y7, .slice x8 M'.length y8] 38)) = w15 ∧ SetRow w15 w14.heap.size w13.heap.size w14.heap.size (.slice x7 D'.length y7) (.slice x8 M'.length y8) D' M' ∧ Below w14.heap.size w14 w15 :=
    ⟨_, rfl, SetRow.new o1 o2 G8.size, (Below.refl _ _).alloc (Nat.le_refl _) _⟩
  rw [hw15]
  have hs14 := G8.size
  have hs15 : w14.heap.size < w15.heap.size := (Array.getElem?_eq_some_iff.1 hZ.row).1
  have hU := hU.below G9
  have hV := hV.below G9
  have hY := hY.below G9
  have G := G.trans (G9.mono G.size)
  clear hw15 o1 o2 G8 G9 b0 b1 hR'
  have c0 := hY.c0
  have c1 := hY.c1
  have c2 := hZ.c0
  have c3 := hZ.c1
  go_wp2_with fail
  refine (sameSet_yes _ _ _ _ _ _ w15 hY.rd1 hY.rd2 hZ.rd1 hZ.rd2).mono ?_
  rintro e w16 ⟨rfl, GA⟩
  have hU := hU.below GA
  have hV := hV.below GA
  have hY := hY.below GA
  have hZ := hZ.below GA
  have G := G.trans (GA.mono G.size)
  have hs16 := GA.size
  clear GA c0 c1 c2 c3
  have c0 := hY.c0
  have c1 := hY.c1
  go_wp2_with fail
  refine (own_row (W := wc) (-3) hY HD.out.len.1 HD.out.len.2 G (by omega) (by omega)).mono ?_
  rintro e w17 ⟨rfl, hY', hO, G⟩
  have hU := hU.only hO hY.rng.1 hY.rng.2 (.inr (by omega))
  have hV := hV.only hO hY.rng.1 hY.rng.2 (.inr (by omega))
  have hZ := hZ.only hO hY.rng.1 hY.rng.2 (.inl (by omega))
  clear hY hO c0 c1
  have d0 := cell_later G HC.out.2.2.2.2.1
  have d1 := cell_later G HC.out.2.2.2.2.2
  go_wp2_with fail
  refine (Update_u _ _ _ sc c l n k s w17 (HF.out.2.2.2.2.2.2.2.1.below G) (HF.out.2.2.2.2.2.2.2.2.below G) (HF.out.2.2.2.2.2.2.1.below G)).mono ?_
  rintro e w18 ⟨v1, v2, C, L, e1, rfl, hR', o1, o2, G8⟩
  obtain ⟨hC, hL, he⟩ := HR.out.fn hR'
  subst hC hL he
  obtain ⟨x9, y9, rfl⟩ := own_shape o1
  obtain ⟨xa, ya, rfl⟩ := own_shape o2
  have hU := hU.below G8
  have hV := hV.below G8
  have hY := hY'.below G8
  have hZ := hZ.below G8
  have G := G.trans (G8.mono G.size)
  go_upto_region 17 with fail
  obtain ⟨w19, hw19, hA, G9⟩ : ∃ w19, (w18.alloc (.cells #[.slice x9 C.length y9, .slice xa L.length ya] 38)) = w19 ∧ SetRow w19 w18.heap.size w17.heap.size w18.heap.size (.slice x9 C.length y9) (.slice xa L.length ya) C L ∧ Below w18.heap.size w18 w19 :=
    ⟨_, rfl, SetRow.new o1 o2 G8.size, (Below.refl _ _).alloc (Nat.le_refl _) _⟩
  rw [hw19]
  have hU := hU.below G9
  have hV := hV.below G9
  have hY := hY.below G9
  have hZ := hZ.below G9
  have G := G.trans (G9.mono G.size)
  clear hw19 o1 o2 G8 G9 d0 d1 hR' hY'
  have c0 := hA.c0
  have c1 := hA.c1
  have c2 := hV.c0
  have c3 := hV.c1
  go_wp2_with fail
  refine (sameSet_yes _ _ _ _ _ _ w19 hA.rd1 hA.rd2 hV.rd1 hV.rd2).mono ?_
  rintro e w20 ⟨rfl, GA⟩
  have hU := hU.below GA
  have hY := hY.below GA
  have hZ := hZ.below GA
  have G := G.trans (GA.mono G.size)
  clear GA c0 c1 c2 c3 hA hV
  have d0 := cell_later G HC.out.2.2.2.2.1
  have d1 := cell_later G HC.out.2.2.2.2.2
  go_wp2_with fail
  refine (Discard_u _ _ _ sc c l w20 (HF.out.2.2.2.2.2.2.2.1.below G) (HF.out.2.2.2.2.2.2.2.2.below G) (HF.out.2.2.2.2.2.2.1.below G)).mono ?_
  rintro e w21 ⟨v1, v2, D, M, e2, rfl, hR', o1, o2, G8⟩
  obtain ⟨hC, hL, he⟩ := HD.out.fn hR'
  subst hC hL he
  obtain ⟨xb, yb, rfl⟩ := own_shape o1
  obtain ⟨xc, yc, rfl⟩ := own_shape o2
  have hU := hU.below G8
  have hY := hY.below G8
  have hZ := hZ.below G8
  have G := G.trans (G8.mono G.size)
  go_upto_region 19 with fail
  obtain ⟨w22, hw22, hA, G9⟩ : ∃ w22, (w21.alloc (.cells #[.slice xb D.length yb, .slice xc M.length yc] 38)) = w22 ∧ SetRow w22 w21.heap.size w20.heap.size w21.heap.size (.slice xb D.length yb) (.slice xc M.length yc) D M ∧ Below w21.heap.size w21 w22 :=
    ⟨_, rfl, SetRow.new o1 o2 G8.size, (Below.refl _ _).alloc (Nat.le_refl _) _⟩
  rw [hw22]
  have hU := hU.below G9
  have hY := hY.below G9
  have hZ := hZ.below G9
  have G := G.trans (G9.mono G.size)
  clear hw22 o1 o2 G8 G9 d0 d1 hR'
  have c0 := hA.c0
  have c1 := hA.c1
  have c2 := hZ.c0
  have c3 := hZ.c1
  go_wp2_with fail
  refine (sameSet_yes _ _ _ _ _ _ w22 hA.rd1 hA.rd2 hZ.rd1 hZ.rd2).mono ?_
  rintro e w23 ⟨rfl, GA⟩
  have hU := hU.below GA
  have hY := hY.below GA
  have G := G.trans (GA.mono G.size)
  clear GA c0 c1 c2 c3 hA hZ
  have b0 := cell_later G HC.out.1
  have b1 := cell_later G HC.out.2.1
  have b2 := cell_later G HC.out.2.2.1
  have b3 := cell_later G HC.out.2.2.2.1
  go_wp2_with fail
  refine (whole_any _ _ _ _ sc l w23 (HF.out.2.2.2.1.below G) (HF.out.2.2.2.2.1.below G) (HF.out.1.below G) (HF.out.2.1.below G) HBD.out.1 HBD.out.2.1).mono ?_
  rintro e w24 ⟨rfl, GA⟩
  have hU := hU.below GA
  have hY := hY.below GA
  have G := G.trans (GA.mono G.size)
  clear GA b0 b1 b2 b3
  go_wp2_with fail
  refine (intact_any _ _ c w24 (HF.out.2.2.2.2.2.1.below G) (HF.out.2.2.1.below G) HBD.out.2.2).mono ?_
  rintro e w25 ⟨rfl, GA⟩
  have hU := hU.below GA
  have hY := hY.below GA
  have G := G.trans (GA.mono G.size)
  clear GA
  have c0 := hU.c0
  have c1 := hU.c1
  go_wp2_with fail
  refine (owned_any _ _ _ _ (-2) w25 hU.rd1 hU.rd2 (by have := HR.out.len.2; omega)).mono ?_
  rintro e w26 ⟨rfl, GA⟩
  have hY := hY.below GA
  have G := G.trans (GA.mono G.size)
  clear GA c0 c1 hU
  have c0 := hY.c0
  have c1 := hY.c1
  go_wp2_with fail
  refine (owned_any _ _ _ _ (-3) w26 hY.rd1 hY.rd2 (by have := HD.out.len.2; omega)).mono ?_
  rintro e w27 ⟨rfl, GA⟩
  have G := G.trans (GA.mono G.size)
  have hfin := hbw.trans (G.mono hsw)
  clear GA c0 c1 hY G
  go_wp2
  go_ret
  exact ⟨rfl, hfin⟩
end Go.Proofs.Ytkiipmdplpcfeaa
