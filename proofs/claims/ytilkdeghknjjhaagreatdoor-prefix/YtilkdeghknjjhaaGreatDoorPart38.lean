/- The document's Keys: the walk. -/
import Derived.Test.YtilkdeghknjjhaaGreatDoorPart37
import Derived.Laws.Cover1
namespace Go.Proofs.YtilkdeghknjjhaaGreatDoor
open Go.RowKit M
set_option linter.unusedVariables false

/-- So many mutations have a key above a text. -/
def above (H : List Mu) (last : ByteArray) : Nat := (H.filter fun x => bl last x.k).length
theorem above_lt {H : List Mu} {a b : ByteArray} (h : bl a b = true) (hm : ∃ i, i < H.length ∧ (mu H i).k = b) : above H b < above H a := by
  unfold above
  have hsub : (H.filter fun x => bl b x.k).Sublist (H.filter fun x => bl a x.k) := by
    have e : (H.filter fun x => bl b x.k) = ((H.filter fun x => bl a x.k).filter fun x => bl b x.k) := by
      rw [List.filter_filter]
      apply List.filter_congr
      intro x _
      cases hb : bl b x.k
      · simp
      · simp [bl_trans h hb]
    rw [e]
    exact List.filter_sublist
  obtain ⟨i, hi, hk⟩ := hm
  rw [mu_get H i hi] at hk
  have hmem : H[i] ∈ H.filter fun x => bl a x.k := List.mem_filter.2 ⟨List.getElem_mem _, by rw [hk]; exact h⟩
  have hnot : H[i] ∉ H.filter fun x => bl b x.k := fun hh => by
    have := (List.mem_filter.1 hh).2
    rw [hk, bl_irr] at this; simp at this
  rcases Nat.lt_or_ge (H.filter fun x => bl b x.k).length (H.filter fun x => bl a x.k).length with hlt | hge
  · exact hlt
  · have e := hsub.eq_of_length_le hge
    rw [e] at hnot
    exact absurd hmem hnot

/-- What Keys answers. -/
def KeysEnd (node : Int) (H : List Mu) (w : World) (e : Ending) (w' : World) : Prop := ∃ v ks, e = .returned v ∧ KeysOf node H ks ∧ OwnX w' w.heap.size v ks ∧ Below w.heap.size w w'
/-- The outer loop's measure. -/
def mKeys (H : List Mu) (t a : Value) : Nat := (match t with | .string last => above H last | _ => 0) + (match a with | .bool true => 1 | _ => 0)
theorem mKeys_eq (H : List Mu) (last : ByteArray) (b : Bool) : mKeys H (.string last) (.bool b) = above H last + if b = true then 1 else 0 := by cases b <;> rfl

set_option maxRecDepth 20000 in
set_option maxHeartbeats 3200000 in
theorem refKeys_any (Z : Nat → Prop) (p : Nat) (node : Int) (L : List MuV) (vh : Value) (w : World) (h : ModIn Z w p node L vh) (hl : L.length ≤ 1000000000) :
    Calls Tryz.prog 105 #[.pointer (some ⟨p, 0, none⟩)] w fun e w' => KeysEnd node (L.map MuV.x) w e w' := by
  obtain ⟨i0, hi, hz0, hz1, hz2⟩ := info_parts infoX
  obtain ⟨ah, ch, rfl, hA⟩ := h.cells
  have c1 : w.cell? ⟨p, 1, none⟩ = some (.slice ah L.length ch) := by rw [cell_of_row _ _ _ _ _ _ h.hp]; rfl
  have hl1 : (L.length : Int) ≤ 1000000000 := by omega
  have hlm : (L.map MuV.x).length = L.length := by simp
  have HOf : Hid (∀ w' k, Below w.heap.size w w' → Calls Tryz.prog 166 #[.pointer (some ⟨p, 0, none⟩), .string k] w' fun e w'' => ∃ r1 r2, e = .returned (.agg #[r1, r2]) ∧ w''.ownsRow w'.heap.size 183 2 r1 (ofM node (L.map MuV.x) k).C.length (cellsE (ofM node (L.map MuV.x) k).C) ∧ w''.ownsRow w'.heap.size 122 3 r2 (ofM node (L.map MuV.x) k).L.length (cellsS (ofM node (L.map MuV.x) k).L) ∧ Below w'.heap.size w' w'' ∧ (ofM node (L.map MuV.x) k).C.length ≤ 8 ∧ (ofM node (L.map MuV.x) k).L.length ≤ 6) :=
    fun w' k hb' => Of_any Z p node L _ k w' (h.below hb') hl
  have HK : Hid (∀ j, j < L.length → ∃ g, ah = some ⟨g, 0, none⟩ ∧ w.cell? ⟨g, j * 4 + 1, none⟩ = some (.string (mu (L.map MuV.x) j).k)) := by
    intro j hj
    obtain ⟨g, ha, hc⟩ := hA (by omega)
    exact ⟨g, ha, by rw [mu_map L j hj]; exact (hc j hj).2.1⟩
  obtain ⟨H, hH⟩ : ∃ H, L.map MuV.x = H := ⟨_, rfl⟩
  rw [hH] at HOf HK hlm
  rw [hH]
  have HLM : Hid (H.length = L.length) := hlm
  clear h hA hH hlm
  go_enter Tryz.func105, Tryz.ntmps105
  go_wp2_with fail
  go_loopw [3, 4, 5] (fun v t a wr => ∃ (last : ByteArray) (b : Bool) (ks : List ByteArray), t = .string last ∧ a = .bool b ∧ Hid (b = true → KeysTo node H last ks) ∧ Hid (b = false → KeysOf node H ks) ∧ Hid (ks.length + above H last ≤ H.length) ∧ OwnX wr w.heap.size v ks ∧ Below w.heap.size w wr)
    (fun _ t a _ => mKeys H t a)
  case atStart => exact ⟨ByteArray.empty, true, [], rfl, rfl, fun _ => KeysTo.start node H, fun h => Bool.noConfusion h, by show _ ≤ _; unfold above; simp; exact List.length_filter_le _ _, World.ownsRow_nil _ _ _ _, Below.refl _ _⟩
  case round =>
    obtain ⟨last, b, ks, rfl, rfl, hk1, hk2, hkl, ho, hb⟩ := hrel
    have hsz := hb.size
    cases b
    · have HO : Hid (KeysOf node H ks) := hk2.out rfl
      go_wp2
      go_ret
      exact ⟨_, ks, rfl, HO.out, ho, hb⟩
    have HT : Hid (KeysTo node H last ks) := hk1.out rfl
    obtain ⟨a3, cap3, hu3⟩ := own_shape ho
    subst hu3
    have HOX : Hid (OwnX wr w.heap.size (.slice a3 ks.length cap3) ks) := ho
    clear hk1 hk2 ho
    go_wp2_with fail
    go_loopw [6, 7, 8] (fun t i _ wx => ∃ k : Nat, k ≤ L.length ∧ i = .int .i64 k ∧ t = .string (bestTo H last k) ∧ Below wr.heap.size wr wx) (fun _ i _ _ => L.length - (intOf i).toNat)
    case atStart => exact ⟨0, Nat.zero_le _, rfl, rfl, Below.refl _ _⟩
    case round =>
      obtain ⟨k, hk, rfl, rfl, hbk⟩ := hrel
      have hb2 := hb.trans (hbk.mono hsz)
      have d1 := cell_later hb2 c1
      by_cases hlt : k < L.length
      · obtain ⟨g, rfl, hr⟩ := HK.out k hlt
        have e1 := cell_later hb2 hr
        have k0 : (0 : Int) ≤ (k : Int) := by omega
        have k1 : (k : Int) < (L.length : Int) := by omega
        have HS : Hid (bestTo H last (k + 1) = if (!(Op.bytesLess (mu H k).k.toList last.toList || (mu H k).k.toList == last.toList)) = true ∧ (((bestTo H last k).toList == ([] : List UInt8)) = true ∨ Op.bytesLess (mu H k).k.toList (bestTo H last k).toList = true) then (mu H k).k else bestTo H last k) := rfl
        obtain ⟨x, hx⟩ : ∃ x, (mu H k).k = x := ⟨_, rfl⟩
        obtain ⟨y, hy⟩ : ∃ y, bestTo H last k = y := ⟨_, rfl⟩
        rw [hx] at e1
        rw [hx, hy] at HS
        rw [hy]
        clear hr hx hy
        by_cases hg : (!(Op.bytesLess x.toList last.toList || x.toList == last.toList)) = true
        rotate_left
        · have hg' : (!(Op.bytesLess x.toList last.toList || x.toList == last.toList)) = false := by simpa using hg
          have HN : Hid (bestTo H last (k + 1) = y) := by show _ = _; rw [HS.out, if_neg (fun h => hg h.1)]
          clear hg
          go_wp2_with fail
          go_roundw
          case rel => exact ⟨k + 1, by omega, by go_num, by rw [HN.out], hbk⟩
          case measure => simp [intOf]; omega
        by_cases he : (y.toList == ([] : List UInt8)) = true
        · have HN : Hid (bestTo H last (k + 1) = x) := by show _ = _; rw [HS.out, if_pos ⟨hg, .inl he⟩]
          go_wp2_with fail
          go_roundw
          case rel => exact ⟨k + 1, by omega, by go_num, by rw [HN.out], hbk⟩
          case measure => simp [intOf]; omega
        have he' : (y.toList == ([] : List UInt8)) = false := by simpa using he
        by_cases hl2 : Op.bytesLess x.toList y.toList = true
        · have HN : Hid (bestTo H last (k + 1) = x) := by show _ = _; rw [HS.out, if_pos ⟨hg, .inr hl2⟩]
          clear he
          go_wp2_with fail
          go_roundw
          case rel => exact ⟨k + 1, by omega, by go_num, by rw [HN.out], hbk⟩
          case measure => simp [intOf]; omega
        · have hl2' : Op.bytesLess x.toList y.toList = false := by simpa using hl2
          have HN : Hid (bestTo H last (k + 1) = y) := by show _ = _; rw [HS.out, if_neg (fun h => h.2.elim he hl2)]
          clear he hl2
          go_wp2_with fail
          go_roundw
          case rel => exact ⟨k + 1, by omega, by go_num, by rw [HN.out], hbk⟩
          case measure => simp [intOf]; omega
      · have k1 : ¬ (k : Int) < (L.length : Int) := by omega
        have hkl2 : k = H.length := by have := HLM.out; omega
        have HB : Hid (bestTo H last H.length = bestTo H last k) := by show _ = _; rw [hkl2]
        have hsb := hb2.size
        obtain ⟨y, hy⟩ : ∃ y, bestTo H last k = y := ⟨_, rfl⟩
        rw [hy] at HB
        rw [hy]
        have HOK : Hid (OwnX wr w.heap.size (.slice a3 ks.length cap3) ks) := own_below HOX.out hbk
        clear hy hkl2
        by_cases he : (y.toList == ([] : List UInt8)) = true
        · have HE : Hid (y = ByteArray.empty) := (nil_iff y).1 he
          have HKO : Hid (KeysOf node H ks) := HT.out.last (HB.out.trans HE.out)
          go_wp2_with fail
          go_roundw
          case rel => exact ⟨last, false, ks, rfl, rfl, fun h => Bool.noConfusion h, fun _ => HKO.out, hkl, HOK.out, hb2⟩
          case measure => rw [mKeys_eq, mKeys_eq]; simp
        · have he' : (y.toList == ([] : List UInt8)) = false := by simpa using he
          have HE : Hid (y ≠ ByteArray.empty) := fun h => he ((nil_iff y).2 h)
          have hn := HT.out.next HB.out HE.out
          have hab : above H y < above H last := above_lt hn.1 (by
            rcases bestTo_spec H last H.length (Nat.le_refl _) with ⟨h5, _⟩ | ⟨_, ⟨j, hj, hjk⟩, _⟩
            · exact absurd (HB.out.symm.trans h5) HE.out
            · exact ⟨j, hj, hjk.trans HB.out⟩)
          have HN : Hid (KeysTo node H y (if (ofM node H y).L ≠ [] then ks ++ [y] else ks)) := hn.2
          have HAB : Hid (above H y < above H last) := hab
          clear he hn hab
          go_wp2_with fail
          refine (HOf.out _ y hb2).mono ?_
          rintro e w5 ⟨r1, r2, rfl, o1, o2, hb5, l1, l2⟩
          obtain ⟨b1, m1, hr1, _⟩ := own_cells o1
          obtain ⟨b2, m2, hr2, _⟩ := own_cells o2
          subst hr1
          subst hr2
          have hb6 := hb2.trans (hb5.mono hsb)
          have hs6 := hb6.size
          have HO5 : Hid (OwnX w5 w.heap.size (.slice a3 ks.length cap3) ks) := own_below HOK.out hb5
          obtain ⟨S, hS⟩ : ∃ S, ofM node H y = S := ⟨_, rfl⟩
          rw [hS] at HN l1 l2
          rw [hS]
          clear hS o1 o2 hb5
          by_cases hne : S.L = []
          · have HK2 : Hid (KeysTo node H y ks) := by have := HN.out; rw [if_neg (fun h => h hne)] at this; exact this
            have hlen : S.L.length = 0 := by rw [hne]; rfl
            rw [hlen]
            clear hne hlen HN
            go_wp2_with fail
            go_roundw
            case rel => exact ⟨y, true, ks, rfl, rfl, fun _ => HK2.out, fun h => Bool.noConfusion h, by show _ ≤ _; have := hkl.out; have := HAB.out; omega, own_below HO5.out ((Below.refl _ _).alloc (Nat.le_refl _) _), hb6.alloc hs6 _⟩
            case measure => rw [mKeys_eq, mKeys_eq]; have := HAB.out; simp; omega
          · have HK2 : Hid (KeysTo node H y (ks ++ [y])) := by have := HN.out; rw [if_pos hne] at this; exact this
            have hlen : 0 < (S.L.length : Int) := by have := List.length_pos_iff.2 hne; omega
            have hkb : ks.length + 1 ≤ 1000000000 := by have := hkl.out; have := HAB.out; have := HLM.out; omega
            obtain ⟨m, hm⟩ : ∃ m, ks.length = m := ⟨_, rfl⟩
            have hoo := HO5.out
            unfold OwnX at hoo
            rw [hm] at hoo hkb
            rw [hm]
            clear hne HN
            go_upto_region 16 with (fail)
            obtain ⟨WA, hWA, hoA, hbA⟩ : ∃ WA, (w5.alloc (.cells #[.slice b1 S.C.length m1, .slice b2 S.L.length m2] 117)) = WA ∧ WA.ownsRow w.heap.size 9 1 (.slice a3 m cap3) m (cellsX ks) ∧ Below w.heap.size w WA :=
              ⟨_, rfl, hoo.alloc _, hb6.alloc hs6 _⟩
            rw [hWA]
            have hsA := hbA.size
            clear hWA hoo
            go_wp2_with (first
              | (at_builtin; refine wpList_append_own _ rfl _ _ 34 rfl w.heap.size 9 i0 (.string ByteArray.empty) 1 16 Tryz.underlying34 hi hz0 hz1 hz2 rfl (by decide) _ _ _ rfl (hoA.alloc _) ⟨WA.heap.size, 0, none⟩ 1 1 [.string y] rfl rfl (cells_one_new _ _ _) (by simp; rfl) (by unfold maxLen; omega) (by omega) (by simp; omega) ?_))
            intro v' w7 hown' hgrow _
            have hb7 : Below w.heap.size w w7 := (hbA.alloc hsA _).grown hgrow (by simp; omega) (fun q hq => (hoA.lt q hq).1)
            clear hoA hgrow
            go_wp2_with fail
            go_roundw
            case rel => exact ⟨y, true, ks ++ [y], rfl, rfl, fun _ => HK2.out, fun h => Bool.noConfusion h, by show _ ≤ _; rw [List.length_append, hm]; have h1 := hkl.out; have := HAB.out; rw [hm] at h1; simp; omega, by unfold OwnX; rw [List.length_append, cellsX_snoc, hm]; exact hown', hb7⟩
            case measure => rw [mKeys_eq, mKeys_eq]; have := HAB.out; simp; omega
end Go.Proofs.YtilkdeghknjjhaaGreatDoor
