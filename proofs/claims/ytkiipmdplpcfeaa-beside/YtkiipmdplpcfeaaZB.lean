/- Beside's walk. -/
import Derived.Test.YtkiipmdplpcfeaaZA
import Derived.WalkKit
import Derived.WalkSpells
import Derived.WalkLawsBesides
import Derived.Deep.QuietTactic
import Derived.BigQuiet
import Derived.Deep.LoopGhost
import Derived.Deep.Cut
import Derived.Deep.CutRange
import Derived.Deep.DeepCutAuto
namespace Go.Proofs.Ytkiipmdplpcfeaa
open Go.RowKit M
set_option linter.unusedVariables false

set_option maxRecDepth 40000 in
set_option maxHeartbeats 1600000 in
theorem Beside_any (vs vc : Value) (ss : List ByteArray) (ks : List Int) (nd wh : Int) (w : World) (hss : RdT w vs ss) (hks : RdI w vc ks) (hsl : ss.length ≤ 17592186044415) (hkl : ks.length ≤ 17592186044415)
    (hsz : ∀ s ∈ ss, s.size ≤ 9223372036854775807) (hkz : ∀ z ∈ ks, -9223372036854775808 ≤ z ∧ z ≤ 9223372036854775807) (hnd0 : -9223372036854775808 ≤ nd) (hnd1 : nd ≤ 9223372036854775807) :
    Calls Try.prog 7 #[vs, vc, .int .i64 nd, .int .i64 wh] w fun e w' => e = .returned (.bool true) ∧ Below w.heap.size w w' := by
  obtain ⟨a, cap, rfl, hA⟩ := hss
  obtain ⟨a', cap', rfl, hA'⟩ := hks
  have hp := pk_lt nd 16 (by decide)
  obtain ⟨n, hn⟩ : ∃ n, pk nd 16 = n := ⟨_, rfl⟩
  have hq := pick_any nd 16 w hnd0 hnd1 (by decide) (by decide)
  rw [hn] at hp hq
  obtain ⟨hn0, hn1⟩ := hp
  have HZ : Hid ((∀ s ∈ ss, s.size ≤ 9223372036854775807) ∧ (∀ z ∈ ks, -9223372036854775808 ≤ z ∧ z ≤ 9223372036854775807)) := ⟨hsz, hkz⟩
  have HA : Hid (0 < ss.length → ∃ b off, a = some ⟨b, off, none⟩ ∧ ∀ j, j < ss.length → w.cell? ⟨b, off + j, none⟩ = some (.string (ss.getD j ByteArray.empty))) := hA
  have HA' : Hid (0 < ks.length → ∃ b off, a' = some ⟨b, off, none⟩ ∧ ∀ j, j < ks.length → w.cell? ⟨b, off + j, none⟩ = some (.int .i64 (ks.getD j 0))) := hA'
  clear hn hnd0 hnd1 hsz hkz hA hA'
  go_enter Try.func7, Try.ntmps7
  go_wp2_with fail
  refine hq.mono ?_
  rintro e w0 ⟨rfl, rfl⟩
  clear hq
  have hl1 : (ss.length : Int) ≤ 17592186044415 := by omega
  have hl2 : (ks.length : Int) ≤ 17592186044415 := by omega
  go_wp2
  go_loopg [11] ss.length (fun g q wr => ∃ k : Nat, k ≤ ss.length ∧ g = ss.length - k ∧ q = .int .i64 k ∧ Hid (SetAt wr w0.heap.size n k) ∧ Below w0.heap.size w0 wr)
  case atStart => exact ⟨0, Nat.zero_le _, rfl, rfl, ⟨none, 0, [], none, 0, [], heap_alloc_new w0 _, Rd.nil _, RdS.nil _, own1_nil n, lok_nil n⟩, (Below.refl _ _).alloc (Nat.le_refl _) _⟩
  case round =>
    obtain ⟨k, hk, rfl, rfl, hS, hb⟩ := hrel
    by_cases hlt : k < ss.length
    · have q1 : (k : Int) < (ss.length : Int) := by omega
      have q0 : (0 : Int) ≤ (k : Int) := by omega
      obtain ⟨b, off, rfl, hr⟩ := HA.out (by omega)
      have e0 := cell_later hb (hr k hlt)
      have hsk : (ss.getD k ByteArray.empty).size ≤ 9223372036854775807 := by
        refine HZ.out.1 _ ?_
        rw [List.getD_eq_getElem?_getD, List.getElem?_eq_getElem hlt]
        exact List.getElem_mem hlt
      obtain ⟨s, hs⟩ : ∃ s, ss.getD k ByteArray.empty = s := ⟨_, rfl⟩
      rw [hs] at e0 hsk
      clear hr hs
      go_upto_if 43 with fail
      go_cut [12] (fun s12 wx => wr = wx ∧ ∃ s' : ByteArray, s12 = .string s' ∧ s'.size ≤ 200)
      case first =>
        by_cases h200 : s.size ≤ 200
        · have gv : ¬ (200 : Int) < (s.size : Int) := by omega
          go_wp2_with fail
          go_meet
          exact ⟨rfl, _, rfl, h200⟩
        · have gv : (200 : Int) < (s.size : Int) := by omega
          have gw : (200 : Int) ≤ (s.size : Int) := by omega
          go_wp2_with fail
          go_meet
          exact ⟨rfl, _, rfl, by simp; omega⟩
      case rest =>
      obtain ⟨rfl, s', rfl, h200⟩ := hcut
      clear e0 hsk
      have HCUT : Hid (∀ wx, Rd wx (.slice none 0 0) [] ∧ Own1 [] n 0) := fun wx => ⟨Rd.nil wx, own1_nil n⟩
      have hszr := hb.size
      go_upto_region 10 with fail
      go_cut [53] (fun s53 wx => wr = wx ∧ s53 = .bool (decide ((k : Int) < (ks.length : Int)) && decide ((0 : Int) < (k : Int))))
      case first =>
        by_cases hkk : (k : Int) < (ks.length : Int)
        · go_wp2_with fail
          go_meet
          exact ⟨rfl, by simp [hkk]⟩
        · go_wp2_with fail
          go_meet
          exact ⟨rfl, by simp; omega⟩
      case rest =>
      obtain ⟨rfl, rfl⟩ := hcut
      obtain ⟨b53, hb53⟩ : ∃ b53 : Bool, (decide ((k : Int) < (ks.length : Int)) && decide ((0 : Int) < (k : Int))) = b53 := ⟨_, rfl⟩
      rw [hb53]
      have HB53 : Hid ((decide ((k : Int) < (ks.length : Int)) && decide ((0 : Int) < (k : Int))) = b53) := hb53
      clear hb53
      go_upto_if 53 with fail
      go_cut [13, 14] (fun s13 s14 wx => ∃ (a3 : Option Addr) (c3 : Nat) (c : List (Int × Int)) (j : Int), s13 = .slice a3 c.length c3 ∧ Rd wx (.slice a3 c.length c3) c ∧ Hid (Own1 c n j) ∧ 0 ≤ j ∧ j ≤ (k : Int) ∧ Below wr.heap.size wr wx)
      case first =>
        cases b53
        · go_wp2_with fail
          go_meet
          exact ⟨none, 0, [], 0, rfl, Rd.nil _, own1_nil n, Int.le_refl _, q0, Below.refl _ _⟩
        · have hkb := HB53.out
          have hkk : k < ks.length := by simp at hkb; omega
          have hk0 : 0 < k := by simp at hkb; omega
          have q2 : (k : Int) < (ks.length : Int) := by omega
          have q3 : (0 : Int) < (k : Int) := by omega
          clear hkb
          obtain ⟨b', off', rfl, hr'⟩ := HA'.out (by omega)
          have e1 := cell_later hb (hr' k hkk)
          have hz := HZ.out.2 (ks.getD k 0) (by
            rw [List.getD_eq_getElem?_getD, List.getElem?_eq_getElem hkk]
            exact List.getElem_mem hkk)
          obtain ⟨z, hzz⟩ : ∃ z, ks.getD k 0 = z := ⟨_, rfl⟩
          rw [hzz] at e1 hz
          have hpk := pk_lt z ((k : Int) + 1) (by omega)
          have hpw := fun w' => pick_wide z ((k : Int) + 1) w' hz.1 hz.2 (by omega) (by omega)
          obtain ⟨j, hj⟩ : ∃ j, pk z ((k : Int) + 1) = j := ⟨_, rfl⟩
          rw [hj] at hpk
          simp only [hj] at hpw
          obtain ⟨hj0, hj1⟩ := hpk
          have HPW : Hid (∀ w', Calls Try.prog 34 #[.int .i64 z, .int .i64 ((k : Int) + 1)] w' fun e w'' => e = .returned (.int .i64 j) ∧ w'' = w') := hpw
          clear hpw hr' hzz hz hj
          go_wp2_with fail
          refine (HPW.out _).mono ?_
          rintro e w1 ⟨rfl, rfl⟩
          by_cases hjp : 0 < j
          · go_wp2_with fail
            go_meet
            exact ⟨_, _, [(n, j)], j, rfl, Rd.one _ _ _ _ (by simp [go_sem]) (by simp [go_sem]), own1_one ⟨hn0, by omega, by omega, by omega⟩, hj0, by omega, (Below.refl _ _).alloc (Nat.le_refl _) _⟩
          · go_wp2_with fail
            go_meet
            exact ⟨none, 0, [], 0, rfl, Rd.nil _, own1_nil n, Int.le_refl _, q0, Below.refl _ _⟩
      case rest =>
      obtain ⟨a3, c3, c, j, rfl, hrc, hc1, hj0, hj1, hbx⟩ := hcut
      have hbc := hb.trans (hbx.mono hszr)
      obtain ⟨a1, c1, sc, a2, c2, L, hg, hrs, hrl, ho1, hlo⟩ := hS.out
      have hg1 := heap_later hbx hg
      have hrs1 := hrs.below hbx
      have hrl1 := hrl.below hbx
      have f0 : wc.cell? ⟨w0.heap.size, 0, none⟩ = some (.slice a1 sc.length c1) := by rw [cell_of_row _ _ _ _ _ _ hg1]; rfl
      have f1 : wc.cell? ⟨w0.heap.size, 1, none⟩ = some (.slice a2 L.length c2) := by rw [cell_of_row _ _ _ _ _ _ hg1]; rfl
      have hok : UpOK sc c L n ((k : Int) + 1) s' := upok hlo ho1 hc1.out hj1 hn0 (by omega) q0 (by omega) h200
      have hjn : Own1 (jn [sc, c, [(n, (k : Int) + 1)]]) n ((k : Int) + 1) := own1_jn ho1 hc1.out ⟨hn0, by omega, by omega, by omega⟩ (by omega) (by omega)
      have hj8 := hjn.clk.1
      have HJN : Hid (UpOK sc c L n ((k : Int) + 1) s' ∧ Own1 (jn [sc, c, [(n, (k : Int) + 1)]]) n ((k : Int) + 1) ∧ (jn [sc, c, [(n, (k : Int) + 1)]]).length ≤ 8 ∧ Own1 sc n k ∧ LOK n k L ∧ Own1 c n j) := ⟨hok, hjn, hj8, ho1, hlo, hc1.out⟩
      have hs2 := hbc.size
      have hl6 := hlo.2.1
      clear hg hrs hrl ho1 hlo hok hjn hj8
      go_upto_region 14 with fail
      go_cut [15, 16] (fun s15 s16 wx => ∃ (T : Nat) (er : Int), s15 = .pointer (some ⟨T, 0, none⟩) ∧ s16 = .int .i64 er ∧ Hid (AfterUpd wx T er n k c L s') ∧ Below wc.heap.size wc wx)
      case first =>
        go_wp2_with fail
        refine (Update_any _ _ _ sc c L n ((k : Int) + 1) s' wc hrs1 hrl1 hrc).mono ?_
        rintro e w2 ⟨hb2, ⟨hno, _⟩ | ⟨_, h6, rfl⟩ | ⟨_, _, h8, _⟩ | ⟨_, h6, _, p, hp, v1, v2, rfl, hv1, hv2⟩⟩
        · exact absurd HJN.out.1 hno
        · unfold setErr
          have hba : ∀ o, Below wc.heap.size wc (w2.alloc o) := fun o => hb2.alloc hb2.size o
          clear f0 f1 hg1 hrs1 hrl1 hrc hb2
          go_wp2_with fail
          go_meet
          exact ⟨_, 5, rfl, rfl, .inl ⟨rfl, h6, by simp [go_sem]⟩, hba _⟩
        · exact absurd HJN.out.2.2.1 (by omega)
        · have hpe := place_end (lok_un HJN.out.2.2.2.2.1 c) s' hp
          rw [hpe] at hv2
          obtain ⟨p1, q1, rfl⟩ := own_shape hv1
          obtain ⟨p2, q2, rfl⟩ := own_shape hv2
          have hr1 := Rd.own hv1 rfl
          have hr2 := RdS.own hv2 rfl
          have HH : Hid (∀ o, Rd (w2.alloc o) (.slice p1 (jn [sc, c, [(n, (k : Int) + 1)]]).length q1) (jn [sc, c, [(n, (k : Int) + 1)]]) ∧ RdS (w2.alloc o) (.slice p2 ((un c L).length + 1) q2) (un c L ++ [Sb.mk n ((k : Int) + 1) s']) ∧ Below wc.heap.size wc (w2.alloc o)) :=
            fun o => ⟨hr1.below ((Below.refl _ _).alloc (Nat.le_refl _) o), by have h := hr2.below ((Below.refl _ _).alloc (Nat.le_refl _) o); simpa using h, hb2.alloc hb2.size o⟩
          have HSN : Hid (LOK n ((k : Int) + 1) (un c L ++ [Sb.mk n ((k : Int) + 1) s'])) := (lok_un HJN.out.2.2.2.2.1 c).snoc q0 (by omega) s' h200
          clear f0 f1 hg1 hrs1 hrl1 hrc hb2 hv1 hv2 hr1 hr2 hp hpe
          go_wp2_with fail
          go_meet
          exact ⟨_, 0, rfl, rfl, .inr ⟨rfl, h6, p1, q1, _, p2, q2, heap_alloc_new w2 _, (HH.out _).1, (HH.out _).2.1, HJN.out.2.1, HSN.out⟩, (HH.out _).2.2⟩
      case rest =>
      obtain ⟨T, er, rfl, rfl, hU, hbu⟩ := hcut
      rename_i wd
      have hg2 := heap_later hbu hg1
      have hrl2 := hrl1.below hbu
      have hrc2 := hrc.below hbu
      have hbd := hbc.trans (hbu.mono hs2)
      have hs3 := hbd.size
      have HRS : Hid (Rd wc (.slice a1 sc.length c1) sc ∧ RdS wc (.slice a2 L.length c2) L) := ⟨hrs1.below hbu, hrl2⟩
      clear hg1 hrs1 hrl1 hrc f0 f1
      obtain ⟨b2, off2, hv2, hr2⟩ : ∃ b2 off2, (0 < L.length → a2 = some ⟨b2, off2, none⟩) ∧ ∀ i, i < L.length → wc.cell? ⟨b2, off2 + i * 3, none⟩ = some (.int .i64 (sb L i).n) ∧ wc.cell? ⟨b2, off2 + i * 3 + 1, none⟩ = some (.int .i64 (sb L i).c) ∧ wc.cell? ⟨b2, off2 + i * 3 + 2, none⟩ = some (.string (sb L i).v) := by
        obtain ⟨a9, c9, h9, _, _, h0⟩ := hrl2
        simp at h9
        by_cases hL : 0 < L.length
        · obtain ⟨b2, off2, h1, h2⟩ := h0 hL
          exact ⟨b2, off2, fun _ => by rw [h9.1, h1], h2⟩
        · exact ⟨0, 0, fun h => absurd h hL, fun i hi => absurd hi (by omega)⟩
      have HR2 : Hid ((0 < L.length → a2 = some ⟨b2, off2, none⟩) ∧ ∀ i, i < L.length → wc.cell? ⟨b2, off2 + i * 3, none⟩ = some (.int .i64 (sb L i).n) ∧ wc.cell? ⟨b2, off2 + i * 3 + 1, none⟩ = some (.int .i64 (sb L i).c) ∧ wc.cell? ⟨b2, off2 + i * 3 + 2, none⟩ = some (.string (sb L i).v)) := ⟨hv2, hr2⟩
      have g1 : wc.cell? ⟨w0.heap.size, 1, none⟩ = some (.slice a2 L.length c2) := by rw [cell_of_row _ _ _ _ _ _ hg2]; rfl
      have HG1 : Hid (wc.cell? ⟨w0.heap.size, 1, none⟩ = some (.slice a2 L.length c2)) := g1
      have HG2 : Hid (wc.heap[w0.heap.size]? = some (.cells #[.slice a1 sc.length c1, .slice a2 L.length c2] 38 (0, 0))) := hg2
      obtain ⟨i0, hi, hz0, hz1, hz2⟩ := info_parts Try.info57
      clear hv2 hr2 hrl2 hg2 g1
      go_wp2
      go_loopg [17, 18] L.length (fun g s17 s18 wx => ∃ m : Nat, m ≤ L.length ∧ g = L.length - m ∧ s18 = .int .i64 m ∧ wx.ownsRow wc.heap.size 57 3 s17 (un c (L.take m)).length (cellsS (un c (L.take m))) ∧ Below wc.heap.size wc wx)
      case atStart => exact ⟨0, Nat.zero_le _, rfl, rfl, World.ownsRow_nil _ _ _ _, Below.refl _ _⟩
      case round =>
        obtain ⟨m, hm, rfl, rfl, ho, hbl⟩ := hrel
        have hszl := hbl.size
        have gg1 := cell_later hbl HG1.out
        have hml : m < L.length ∨ m = L.length := by omega
        rcases hml with hml | hml
        · obtain ⟨a5, cap5, rfl⟩ := own_shape ho
          have ha2 := HR2.out.1 (by omega)
          have q1 : (m : Int) < (L.length : Int) := by omega
          have q0m : (0 : Int) ≤ (m : Int) := by omega
          have e0 := cell_later hbl (HR2.out.2 m hml).1
          have e1 := cell_later hbl (HR2.out.2 m hml).2.1
          have e2 := cell_later hbl (HR2.out.2 m hml).2.2
          have hxm := HJN.out.2.2.2.2.1.2.2 (sb L m) (by rw [sb_get L m hml]; exact List.getElem_mem hml)
          have hlen := un_len c L m
          have hs := un_snoc c L m hml
          rw [hxm.1] at hs e0
          rw [ha2] at gg1
          have HS : Hid (un c (L.take (m + 1)) = if (sb L m).c ≤ cS c n then un c (L.take m) else un c (L.take m) ++ [sb L m]) := hs
          obtain ⟨x, hx⟩ : ∃ x, sb L m = x := ⟨_, rfl⟩
          rw [hx] at e1 e2 hxm HS
          obtain ⟨U, hU2⟩ : ∃ U, un c (L.take m) = U := ⟨_, rfl⟩
          rw [hU2] at ho hlen HS
          obtain ⟨r, hr⟩ : ∃ r, U.length = r := ⟨_, rfl⟩
          rw [hr] at ho hlen
          rw [hU2, hr]
          obtain ⟨xn, xc, xv⟩ := x
          obtain ⟨hx1, hx2, hx3, hx4⟩ := hxm
          simp only at hx1 hx2 hx3 hx4 e1 e2
          subst hx1
          have hcc := Covers_dec (.slice a3 c.length c3) c xn xc wr (hrc2.below hbl) HJN.out.2.2.2.2.2.clk ⟨hn0, by omega, hx2, by omega⟩
          have HCC : Hid (Calls Try.prog 14 #[.slice a3 c.length c3, .int .i64 xn, .int .i64 xc] wr fun e w' => e = .returned (.bool (decide (xc ≤ cS c xn))) ∧ Below wr.heap.size wr w') := hcc
          clear hcc hs hx hU2 hx3 hx4
          go_wp2_with fail
          refine HCC.out.mono ?_
          rintro e w1 ⟨rfl, hb2⟩
          have e0' := cell_later hb2 e0
          have e1' := cell_later hb2 e1
          have e2' := cell_later hb2 e2
          have gg2 := cell_later hb2 gg1
          have ho1 := ownsRow_below ho hb2
          have hbm := hbl.trans (hb2.mono hszl)
          have hsm := hbm.size
          clear e0 e1 e2 gg1 ho hb2 HCC
          by_cases hsn : xc ≤ cS c xn
          · have HU : Hid (un c (L.take (m + 1)) = U) := by
              show _ = _
              rw [HS.out, if_pos hsn]
            have gd : decide (xc ≤ cS c xn) = true := by simpa using hsn
            rw [gd]
            clear gd hsn HS
            go_wp2
            go_roundg (L.length - (m + 1))
            case measure => omega
            case rel => exact ⟨m + 1, by omega, rfl, by go_num, by rw [HU.out, hr]; exact ho1, hbm⟩
          · have HU : Hid (un c (L.take (m + 1)) = U ++ [⟨xn, xc, xv⟩]) := by
              show _ = _
              rw [HS.out, if_neg hsn]
            have gd : decide (xc ≤ cS c xn) = false := by simpa using hsn
            rw [gd]
            clear gd hsn HS
            go_wp2_with (first
              | (at_builtin; refine wpList_append_own _ rfl _ _ 36 rfl wc.heap.size 57 i0 (.agg #[.int .i64 0, .int .i64 0, .string ByteArray.empty]) 3 32 Try.underlying36 hi hz0 hz1 hz2 rfl (by decide) _ _ _ rfl (ho1.alloc _) ⟨w1.heap.size, 0, none⟩ 1 1 [.int .i64 xn, .int .i64 xc, .string xv] rfl rfl ?c1 ?c2 ?c3 ?c4 ?c5 ?_))
            case c1 => exact cells_three_new _ _ _ _ _
            case c2 => intro u hu; simp at hu; rcases hu with rfl | rfl | rfl <;> rfl
            case c3 => unfold maxLen; omega
            case c4 => omega
            case c5 => simp; omega
            · intro v' w2 hown' hgrow _
              have hb3 : Below wc.heap.size wc w2 := (hbm.alloc (by omega) _).grown hgrow (by simp; omega) (fun q hq => (ho1.lt q hq).1)
              go_wp2
              go_roundg (L.length - (m + 1))
              case measure => omega
              case rel => exact ⟨m + 1, by omega, rfl, by go_num, by rw [HU.out, List.length_append, cellsS_snoc, hr]; exact hown', hb3⟩
        · rw [hml, List.take_length] at ho
          have hnm : ¬ (m : Int) < (L.length : Int) := by omega
          obtain ⟨a5, cap5, rfl⟩ := own_shape ho
          have hbe := hbd.trans (hbl.mono hs3)
          have hs5 := hbe.size
          have gg0 : wr.cell? ⟨w0.heap.size, 0, none⟩ = some (.slice a1 sc.length c1) := by rw [cell_of_row _ _ _ _ _ _ (heap_later hbl HG2.out)]; rfl
          have hrs3 := HRS.out.1.below hbl
          have hrl3 := HRS.out.2.below hbl
          rcases hU.out with ⟨rfl, h6, ht⟩ | ⟨rfl, h6, p1, q1, sc', p2, q2, hgt, hr1, hr2, ho1, hlo1⟩
          · have gt := cell_later hbl ht
            have q6 : (6 : Int) ≤ ((un c L).length : Int) := by omega
            obtain ⟨Un, hUn⟩ : ∃ Un, (un c L).length = Un := ⟨_, rfl⟩
            rw [hUn] at q6 ho
            rw [hUn]
            have ho1 := HJN.out.2.2.2.1
            have hlo := HJN.out.2.2.2.2.1
            have HF : Hid (SetOK sc L ∧ un sc L = [] ∧ jn [sc, sc] = sc ∧ sc.length ≤ 1 ∧ Clk sc) := ⟨hlo.set ho1 hn0 (by omega) (by omega), lok_seen hlo ho1, jn_self ho1.1, ho1.len, ho1.clk⟩
            clear ho1 hlo h6 hUn ho ht hi hz0 hz1 hz2
            go_wp2_with fail
            refine (Discard_any _ _ _ sc sc L wr hrs3 hrl3 hrs3).mono ?_
            rintro e w1 ⟨hb1, ⟨hno, _⟩ | ⟨_, _, h8, _⟩ | ⟨_, _, _, v1, v2, rfl, hv1, hv2⟩⟩
            · exact absurd ⟨HF.out.1, HF.out.2.2.2.2⟩ hno
            · rw [HF.out.2.2.1] at h8; have := HF.out.2.2.2.1; omega
            rw [HF.out.2.1] at hv2
            obtain ⟨p2, q2, rfl⟩ := own_shape hv2
            obtain ⟨p1, q1, rfl⟩ := own_shape hv1
            have hb9 : ∀ o, Below w0.heap.size w0 (w1.alloc o) := fun o => (hbe.trans (hb1.mono hs5)).alloc ((hbe.trans (hb1.mono hs5)).size) o
            clear hv1 hv2 hb1 gg0 gg1 gt hrs3 hrl3
            go_wp2_with fail
            go_ret
            exact ⟨rfl, hb9 _⟩
          · have hgT := heap_later hbl hgt
            have hgW := heap_later hbl HG2.out
            have hvl := (RdS.own ho rfl).lies
            have hr1' := hr1.below hbl
            have hr2' := hr2.below hbl
            have HE : Hid (Rd wr (.slice p1 sc'.length q1) sc' ∧ RdS wr (.slice p2 ((un c L).length + 1) q2) (un c L ++ [Sb.mk n ((k : Int) + 1) s']) ∧ Own1 sc' n ((k : Int) + 1) ∧ LOK n ((k : Int) + 1) (un c L ++ [Sb.mk n ((k : Int) + 1) s']) ∧
              wr.heap[T]? = some (.cells #[.slice p1 sc'.length q1, .slice p2 ((un c L).length + 1) q2] 38 (0, 0)) ∧ wr.heap[w0.heap.size]? = some (.cells #[.slice a1 sc.length c1, .slice a2 L.length c2] 38 (0, 0))) := ⟨hr1', hr2', ho1, hlo1, hgT, hgW⟩
            obtain ⟨U, hU3⟩ : ∃ U, un c L = U := ⟨_, rfl⟩
            rw [hU3] at HE hvl hgT hr2' h6
            rw [hU3]
            obtain ⟨b6, off6, rfl, hc6, z0, z1, z2⟩ := hr2'.more
            have HV : Hid (0 < U.length → ∃ b off, a5 = some ⟨b, off, none⟩ ∧
              (∀ i, i < U.length → wr.cell? ⟨b, off + i * 3, none⟩ = some (.int .i64 (sb U i).n) ∧ wr.cell? ⟨b, off + i * 3 + 1, none⟩ = some (.int .i64 (sb U i).c) ∧ wr.cell? ⟨b, off + i * 3 + 2, none⟩ = some (.string (sb U i).v))) := hvl
            have HC6 : Hid (∀ i, i < U.length → wr.cell? ⟨b6, off6 + i * 3, none⟩ = some (.int .i64 (sb U i).n) ∧ wr.cell? ⟨b6, off6 + i * 3 + 1, none⟩ = some (.int .i64 (sb U i).c) ∧ wr.cell? ⟨b6, off6 + i * 3 + 2, none⟩ = some (.string (sb U i).v)) := hc6
            obtain ⟨Un, hUn⟩ : ∃ Un, U.length = Un := ⟨_, rfl⟩
            have HUN : Hid (U.length = Un) := hUn
            rw [hUn] at hgT z0 z1 z2 h6
            rw [hUn]
            have t0 : wr.cell? ⟨T, 0, none⟩ = some (.slice p1 sc'.length q1) := by rw [cell_of_row _ _ _ _ _ _ hgT]; rfl
            have t1 : wr.cell? ⟨T, 1, none⟩ = some (.slice (some ⟨b6, off6, none⟩) (Un + 1) q2) := by rw [cell_of_row _ _ _ _ _ _ hgT]; rfl
            have q6 : ¬ (6 : Int) ≤ (Un : Int) := by omega
            have q7 : (Un : Int) < (Un : Int) + 1 := by omega
            have HT : Hid (wr.cell? ⟨T, 0, none⟩ = some (.slice p1 sc'.length q1) ∧ wr.cell? ⟨T, 1, none⟩ = some (.slice (some ⟨b6, off6, none⟩) (Un + 1) q2)) := ⟨t0, t1⟩
            simp only at z1 z2
            clear ho hr1 hr2 hr1' hr2' ho1 hlo1 hgt hgT hgW hvl hc6 hU3 hUn hi hz0 hz1 hz2 hrs3 hrl3 t0 gg0
            go_wp2_with fail
            go_loopg [22] Un (fun g s22 wx => ∃ i : Nat, i ≤ Un ∧ g = Un - i ∧ s22 = .int .i64 i ∧ Below wr.heap.size wr wx)
            case atStart => exact ⟨0, Nat.zero_le _, rfl, rfl, Below.refl _ _⟩
            case round =>
              obtain ⟨i, hi2, rfl, rfl, hbi⟩ := hrel
              have t0' := cell_later hbi HT.out.1
              have t1' := cell_later hbi HT.out.2
              have hiu : i < Un ∨ i = Un := by omega
              clear z0 z1 z2 t1 gg1 hnm
              rcases hiu with hiu | hiu
              · obtain ⟨b7, off7, rfl, hc7⟩ := HV.out (by have := HUN.out; omega)
                have hl7 := hc7 i (by have := HUN.out; omega)
                have hl6' := HC6.out i (by have := HUN.out; omega)
                have c1' := cell_later hbi hl6'.1
                have c2' := cell_later hbi hl6'.2.1
                have c3' := cell_later hbi hl6'.2.2
                have d1' := cell_later hbi hl7.1
                have d2' := cell_later hbi hl7.2.1
                have d3' := cell_later hbi hl7.2.2
                have k1 : (i : Int) < (Un : Int) := by omega
                have k2 : (i : Int) < (Un : Int) + 1 := by omega
                have k0 : (0 : Int) ≤ (i : Int) := by omega
                obtain ⟨x, hx⟩ : ∃ x, sb U i = x := ⟨_, rfl⟩
                rw [hx] at c1' c2' c3' d1' d2' d3'
                have hg57 := guard57
                have hn57 := neq_sb x x
                rw [(sbEq_iff x x).2 rfl] at hn57
                clear hc7 hl7 hl6' hx t0'
                go_wp2_with fail
                go_quiet (fail)
                go_wp2
                go_roundg (Un - (i + 1))
                case measure => omega
                case rel => exact ⟨i + 1, by omega, rfl, by go_num, below_drewN hbi _⟩
              · have k1 : ¬ (i : Int) < (Un : Int) := by omega
                have HG9 := heap_later hbi HE.out.2.2.2.2.2
                have HG9' : Hid (wr.heap[w0.heap.size]? = some (.cells #[.slice a1 sc.length c1, .slice a2 L.length c2] 38 (0, 0))) := HG9
                clear HG9
                go_wp2_with (first
                  | (refine wpList_store_row rfl 38 _ _ rfl w0.heap.size #[.slice p1 sc'.length q1, .slice (some ⟨b6, off6, none⟩) (Un + 1) q2] rfl rfl 38 #[.slice a1 sc.length c1, .slice a2 L.length c2] HG9'.out info38 rfl (one_two _ _ _ _ _ _) ?_))
                go_roundg (ss.length - (k + 1))
                case measure => omega
                case rel =>
                  have hn := SetAt.next HG9'.out (HE.out.1.below hbi) (HE.out.2.1.below hbi) HE.out.2.2.1 HE.out.2.2.2.1
                  rw [HUN.out] at hn
                  exact ⟨k + 1, by omega, rfl, by go_num, hn, below_setRow (hbe.trans (hbi.mono hs5)) (Nat.le_refl _) _⟩
    · have hke : k = ss.length := by omega
      have hszr := hb.size
      obtain ⟨a1, c1, sc, a2, c2, L, hg, hrs, hrl, ho1, hlo⟩ := hS.out
      have f0 : wr.cell? ⟨w0.heap.size, 0, none⟩ = some (.slice a1 sc.length c1) := by rw [cell_of_row _ _ _ _ _ _ hg]; rfl
      have f1 : wr.cell? ⟨w0.heap.size, 1, none⟩ = some (.slice a2 L.length c2) := by rw [cell_of_row _ _ _ _ _ _ hg]; rfl
      have hset : SetOK sc L := hlo.set ho1 hn0 (by omega) (by omega)
      have hu1 := lok_seen hlo ho1
      have hu2 := lok_none hlo
      have hj1 := jn_self ho1.1
      have hlen := ho1.len
      have HF : Hid (SetOK sc L ∧ un sc L = [] ∧ un [] L = L ∧ jn [sc, sc] = sc ∧ sc.length ≤ 1 ∧ Clk sc ∧ US sc) := ⟨hset, hu1, hu2, hj1, hlen, ho1.clk, ho1.1⟩
      have hl6 := hlo.2.1
      clear hset hu1 hu2 hj1 hlen ho1 hlo hg
      have hnl : ¬ (k : Int) < (ss.length : Int) := by omega
      go_wp2_with fail
      refine (Discard_any _ _ _ sc sc L wr hrs hrl hrs).mono ?_
      rintro e w1 ⟨hb1, ⟨hno, _⟩ | ⟨_, _, h8, _⟩ | ⟨_, _, _, v1, v2, rfl, hv1, hv2⟩⟩
      · exact absurd ⟨HF.out.1, HF.out.2.2.2.2.2.1⟩ hno
      · rw [HF.out.2.2.2.1] at h8; have := HF.out.2.2.2.2.1; omega
      rw [HF.out.2.1] at hv2
      obtain ⟨p2, q2, rfl⟩ := own_shape hv2
      obtain ⟨p1, q1, rfl⟩ := own_shape hv1
      have e0 := cell_later hb1 f0
      have e1 := cell_later hb1 f1
      have hrs1 := hrs.below hb1
      have hrl1 := hrl.below hb1
      have hbb := hb.trans (hb1.mono hszr)
      have hs1 := hbb.size
      clear hv1 hv2 hb1 f0 f1 hrs hrl
      have hal : ∀ o, Below w1.heap.size w1 (w1.alloc o) := fun o => (Below.refl _ _).alloc (Nat.le_refl _) o
      have g0 : ∀ o, (w1.alloc o).cell? ⟨w0.heap.size, 0, none⟩ = some (.slice a1 sc.length c1) := fun o => cell_later (hal o) e0
      have g1 : ∀ o, (w1.alloc o).cell? ⟨w0.heap.size, 1, none⟩ = some (.slice a2 L.length c2) := fun o => cell_later (hal o) e1
      clear e0 e1
      go_wp2_with fail
      obtain ⟨W2, hW2, hbW, t1⟩ : ∃ W2, (w1.alloc (.cells #[.slice p1 (jn [sc, sc]).length q1, .slice p2 0 q2] 38)) = W2 ∧ Below w1.heap.size w1 W2 ∧ W2.cell? ⟨w1.heap.size, 1, none⟩ = some (.slice p2 0 q2) :=
        ⟨_, rfl, hal _, by simp [go_sem]⟩
      have t2 := g1 (.cells #[.slice p1 (jn [sc, sc]).length q1, .slice p2 0 q2] 38)
      rw [hW2] at t2
      rw [hW2]
      have hrs2 := hrs1.below hbW
      have hrl2 := hrl1.below hbW
      have hb2 := hbb.trans (hbW.mono hs1)
      have hs2 := hb2.size
      clear g0 g1 hal hrs1 hrl1 hbb hW2 hbW
      refine (Discard_any _ _ _ sc [] L W2 hrs2 hrl2 (Rd.nil _)).mono ?_
      rintro e w3 ⟨hb3, ⟨hno, _⟩ | ⟨_, _, h8, _⟩ | ⟨_, _, _, v1, v2, rfl, hv1, hv2⟩⟩
      · exact absurd ⟨HF.out.1, (own1_nil n).clk⟩ hno
      · rw [show jn [sc, []] = sc from by
          rw [jn_comm HF.out.2.2.2.2.2.2 (own1_nil n).1]
          exact jn_nil HF.out.2.2.2.2.2.2] at h8
        have := HF.out.2.2.2.2.1; omega
      rw [HF.out.2.2.1] at hv2
      obtain ⟨p3, q3, rfl⟩ := own_shape hv2
      obtain ⟨p4, q4, rfl⟩ := own_shape hv1
      have d1 := cell_later hb3 t1
      have d2 := cell_later hb3 t2
      have hb4 := hb2.trans (hb3.mono hs2)
      have hs4 := hb4.size
      clear hv1 hv2 hb3 t1 t2 hrs2 hrl2 hb2
      go_wp2_with fail
      obtain ⟨W4, hW4, hbW, x1⟩ : ∃ W4, (w3.alloc (.cells #[.slice p4 (jn [sc, []]).length q4, .slice p3 L.length q3] 38)) = W4 ∧ Below w3.heap.size w3 W4 ∧ W4.cell? ⟨w3.heap.size, 1, none⟩ = some (.slice p3 L.length q3) :=
        ⟨_, rfl, (Below.refl _ _).alloc (Nat.le_refl _) _, by simp [go_sem]⟩
      rw [hW4]
      have x2 := cell_later hbW d1
      have x3 := cell_later hbW d2
      have hb5 := hb4.trans (hbW.mono hs4)
      have hs5 := hb5.size
      clear hW4 hbW d1 d2 hb4
      refine (Update_any _ _ _ [] [] [] n 0 ByteArray.empty W4 (Rd.nil _) (RdS.nil _) (Rd.nil _)).mono ?_
      rintro e w5 ⟨hb6, ⟨_, rfl⟩ | ⟨hok, _⟩ | ⟨hok, _⟩ | ⟨hok, _⟩⟩
      · have y1 := cell_later hb6 x1
        have y2 := cell_later hb6 x2
        have y3 := cell_later hb6 x3
        have hb7 := hb5.trans (hb6.mono hs5)
        unfold setErr
        clear x1 x2 x3 hb6 hb5
        have hal : ∀ o, Below w5.heap.size w5 (w5.alloc o) := fun o => (Below.refl _ _).alloc (Nat.le_refl _) o
        have z1 : ∀ o, (w5.alloc o).cell? ⟨w3.heap.size, 1, none⟩ = some (.slice p3 L.length q3) := fun o => cell_later (hal o) y1
        have z2 : ∀ o, (w5.alloc o).cell? ⟨w1.heap.size, 1, none⟩ = some (.slice p2 0 q2) := fun o => cell_later (hal o) y2
        have z3 : ∀ o, (w5.alloc o).cell? ⟨w0.heap.size, 1, none⟩ = some (.slice a2 L.length c2) := fun o => cell_later (hal o) y3
        have hb8 : ∀ o, Below w0.heap.size w0 (w5.alloc o) := fun o => hb7.alloc hb7.size o
        clear y1 y2 y3 hal
        go_wp2_with fail
        go_ret
        exact ⟨rfl, hb8 _⟩
      · exact absurd hok.2.2.1.2.2.1 (by decide)
      · exact absurd hok.2.2.1.2.2.1 (by decide)
      · exact absurd hok.2.2.1.2.2.1 (by decide)
end Go.Proofs.Ytkiipmdplpcfeaa
