/- The contract of Decode: the clock of its text, else ErrContext. -/
import Derived.Test.YtkiipmdplpcfeaaE
import Derived.WalkKit
import Derived.WalkSpells
import Derived.WalkLawsBesides
import Derived.Lib.Strings
namespace Go.Proofs.Ytkiipmdplpcfeaa
open Go.RowKit M
set_option linter.unusedVariables false

/-- The i-th entry of a text, and the first k of them, however the text goes on. -/
def rdE (l : List UInt8) (i : Nat) : Int × Int := (((l.getD (1 + 9 * i) 0).toNat : Int), wrap64 (val ((l.drop (2 + 9 * i)).take 8)))
def rdTo (l : List UInt8) : Nat → List (Int × Int)
  | 0 => []
  | k + 1 => rdTo l k ++ [rdE l k]
theorem rdTo_len (l : List UInt8) : ∀ k, (rdTo l k).length = k
  | 0 => rfl
  | k + 1 => by simp [rdTo, rdTo_len l k]
def hd (l : List UInt8) : Nat := (l.getD 0 0).toNat
/-- The text of a clock. -/
def Dec (l : List UInt8) : Prop := l ≠ [] ∧ l.length = 1 + 9 * hd l ∧ Clk (rdTo l (hd l))

theorem own_below {w w' : World} {B e size n : Nat} {v : Value} {xs : List Value} (h : w.ownsRow B e size v n xs) (hb : Below w.heap.size w w') : w'.ownsRow B e size v n xs := by
  refine ⟨h.1, ?_⟩
  rcases h.2 with h2 | ⟨g, cap, cur, hv, hg, hh, r⟩
  · exact .inl h2
  · exact .inr ⟨g, cap, cur, hv, hg, by rw [hb.block g (Array.getElem?_eq_some_iff.1 hh).1]; exact hh, r⟩

theorem toList_size (s : ByteArray) : s.data.toList.length = s.size := by rw [Array.length_toList]; rfl
theorem getD_byte (s : ByteArray) (i : Nat) (h : i < s.size) : s.data.toList.getD i 0 = s[i] := by
  rw [List.getD, List.getElem?_eq_getElem (by rw [toList_size]; exact h)]; rfl
theorem val_extract (s : ByteArray) (p : Nat) : val (s.extract (p + 1) (p + 9)).data.toList = val ((s.data.toList.drop (p + 1)).take 8) := by
  have : (s.extract (p + 1) (p + 9)).data.toList = (s.data.toList.drop (p + 1)).take 8 := by
    simp [ByteArray.data_extract, List.extract_eq_take_drop]
  rw [this]

theorem not_dec_empty {l : List UInt8} (h : l.length = 0) : ¬ Dec l := fun d => d.1 (List.eq_nil_of_length_eq_zero h)

set_option maxHeartbeats 400000 in
set_option maxRecDepth 20000 in
theorem Decode_any (s : ByteArray) (w : World) (hs : s.size ≤ maxLen) :
    Calls Try.prog 18 #[.string s] w fun e w' => Below w.heap.size w w' ∧ ((¬ Dec s.data.toList ∧ e = .returned (.tuple #[.slice none 0 0, .int .i64 2])) ∨
      (Dec s.data.toList ∧ ∃ v, e = .returned (.tuple #[v, .int .i64 0]) ∧ w'.ownsRow w.heap.size 52 2 v (hd s.data.toList) (cellsE (rdTo s.data.toList (hd s.data.toList))))) := by
  obtain ⟨i0, hi, hz0, hz1, hz2⟩ := info_parts Try.info52
  unfold maxLen at hs
  by_cases h0 : s.size = 0
  · have he : s.toList.isEmpty = true := by
      rw [Lib.toList_data, List.eq_nil_of_length_eq_zero (l := s.data.toList) (by rw [toList_size]; exact h0)]; rfl
    go_enter Try.func18, Try.ntmps18
    go_wp2
    go_ret2
    exact ⟨Below.refl _ _, .inl ⟨not_dec_empty (by rw [toList_size]; exact h0), rfl⟩⟩
  · have hp : 0 < s.size := by omega
    have he : s.toList.isEmpty = false := by
      rw [Lib.toList_data]
      cases hl : s.data.toList with
      | nil => have := toList_size s; rw [hl] at this; simp at this; omega
      | cons a r => rfl
    have hh : s.data.toList.getD 0 0 = s[0] := getD_byte s 0 hp
    obtain ⟨b0, hb0⟩ : ∃ b, s[0] = b := ⟨_, rfl⟩
    have hm : hd s.data.toList = b0.toNat := by unfold hd; rw [hh, hb0]
    have HM : Hid (hd s.data.toList = b0.toNat) := hm
    clear hh hm
    have hb1 : (b0.toNat : Int) < 256 := by have := b0.toNat_lt; omega
    by_cases h1 : s.size = 1 + 9 * b0.toNat
    · have ht : ((s.size : Int) != 1 + (b0.toNat : Int) * 9) = false := by simp; omega
      have H1 : Hid (s.size = 1 + 9 * b0.toNat) := h1
      clear h1
      have q3 : s.size ≤ 3000 := by have := H1.out; omega
      clear hs
      go_enter Try.func18, Try.ntmps18
      go_wp2
      clear he ht
      go_loopw [4, 5, 6] (fun c a _ wr => ∃ k p : Nat, k ≤ b0.toNat ∧ Hid (p = 1 + 9 * k) ∧ a = .int .i64 p ∧ wr.ownsRow w.heap.size 52 2 c k (cellsE (rdTo s.data.toList k)) ∧ Below w.heap.size w wr)
        (fun _ a _ _ => s.size + 9 - (intOf a).toNat)
      case atStart => exact ⟨0, 1, Nat.zero_le _, rfl, rfl, World.ownsRow_nil _ _ _ _, Below.refl _ _⟩
      case round =>
        obtain ⟨k, p, hk, hpk, rfl, ho, hb⟩ := hrel
        have hsz := hb.size
        have q1 : p ≤ s.size := by have := hpk.out; have := H1.out; omega
        by_cases hlt : k < b0.toNat
        · have q2 : p + 9 ≤ s.size := by have := hpk.out; have := H1.out; omega
          have hbp : (s[p].toNat : Int) < 256 := by have := s[p].toNat_lt; omega
          go_wp2_with fail
          refine (readCount_any _ _ (by unfold maxLen; simp; omega)).mono ?_
          rintro e w1 ⟨rfl, rfl⟩
          rw [val_extract]
          have hE : rdE s.data.toList k = ((s[p].toNat : Int), wrap64 (val ((s.data.toList.drop (p + 1)).take 8))) := by
            have e1 : 1 + 9 * k = p := hpk.out.symm
            have e2 : 2 + 9 * k = p + 1 := by omega
            unfold rdE
            rw [e1, e2, getD_byte s p (by omega)]
          have HE : Hid (rdE s.data.toList k = ((s[p].toNat : Int), wrap64 (val ((s.data.toList.drop (p + 1)).take 8)))) := hE
          clear hE
          obtain ⟨q, hq⟩ : ∃ q, wrap64 (val ((s.data.toList.drop (p + 1)).take 8)) = q := ⟨_, rfl⟩
          rw [hq]
          have HQ : Hid (wrap64 (val ((s.data.toList.drop (p + 1)).take 8)) = q) := hq
          clear hq
          go_wp2_with (first
            | (at_builtin; refine wpList_append_own _ rfl _ _ 22 rfl w.heap.size 52 i0 (.agg #[.int .i64 0, .int .i64 0]) 2 16 Try.underlying22 hi hz0 hz1 hz2 rfl (by decide) _ _ _ rfl (ho.alloc _) ⟨w1.heap.size, 0, none⟩ 1 1 [.int .i64 s[p].toNat, .int .i64 q] rfl rfl ?c1 ?c2 ?c3 ?c4 ?c5 ?_))
          case c1 => exact cell_two_new _ _ _ _
          case c2 => intro u hu; simp at hu; rcases hu with rfl | rfl <;> rfl
          case c3 => unfold maxLen; omega
          case c4 => omega
          case c5 => simp; omega
          · intro v' w2 hown' hgrow _
            have hb3 : Below w.heap.size w w2 := (hb.alloc (by omega) _).grown hgrow (by simp; omega) (fun q hq => (ho.lt q hq).1)
            have hs3 := hb3.size
            go_wp2
            go_roundw
            case rel => exact ⟨k + 1, p + 9, by omega, by show _ = _; have := hpk.out; omega, by go_num, by rw [rdTo, cellsE_snoc, HE.out, HQ.out]; exact hown', hb3⟩
            case measure => simp [intOf]; omega
        · have hkm : k = b0.toNat := by omega
          have hps : ¬ p < s.size := by have := hpk.out; have := H1.out; omega
          have hrd : Rd wr u4 (rdTo s.data.toList k) := Rd.own ho (by rw [rdTo_len])
          go_wp2_with fail
          refine (isClock_any _ _ _ hrd).mono ?_
          rintro e w1 ⟨r, rfl, hr, hb2⟩
          have ho1 := own_below ho hb2
          have hb3 := hb.trans (hb2.mono hsz)
          have hs1 : s.data.toList.length = 1 + 9 * hd s.data.toList := by rw [toList_size, HM.out]; exact H1.out
          have hne : s.data.toList ≠ [] := fun e => by rw [e] at hs1; simp at hs1; omega
          have HK : Hid (k = hd s.data.toList) := hkm.trans HM.out.symm
          have HN : Hid (s.data.toList ≠ [] ∧ s.data.toList.length = 1 + 9 * hd s.data.toList) := ⟨hne, hs1⟩
          clear hne hs1 hkm
          cases r
          · have hnk : ¬ Clk (rdTo s.data.toList k) := fun h => Bool.noConfusion (hr.2 h)
            clear hr
            go_wp2
            go_ret2
            exact ⟨hb3, .inl ⟨fun d => hnk (by rw [HK.out]; exact d.2.2), rfl⟩⟩
          · have hkc : Clk (rdTo s.data.toList k) := hr.1 rfl
            clear hr
            go_wp2
            go_ret2
            have hKK := HK.out
            exact ⟨hb3, .inr ⟨⟨HN.out.1, HN.out.2, by rw [← hKK]; exact hkc⟩, _, rfl, by rw [← hKK]; exact ho1⟩⟩
    · have ht : ((s.size : Int) != 1 + (b0.toNat : Int) * 9) = true := by simp; omega
      have H1 : Hid (¬ s.size = 1 + 9 * b0.toNat) := h1
      clear h1
      go_enter Try.func18, Try.ntmps18
      go_wp2
      go_ret2
      exact ⟨Below.refl _ _, .inl ⟨fun d => H1.out (by rw [← toList_size, d.2.1, HM.out]), rfl⟩⟩
end Go.Proofs.Ytkiipmdplpcfeaa
