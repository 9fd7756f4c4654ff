/- The walk of Exact. -/
import Derived.Test.YtkiipmdplpcfeaaH
import Derived.WalkKit
import Derived.WalkSpells
import Derived.WalkLawsBesides
namespace Go.Proofs.Ytkiipmdplpcfeaa
open Go.RowKit M
set_option linter.unusedVariables false

set_option maxRecDepth 20000 in
set_option maxHeartbeats 400000 in
theorem Exact_any (s : ByteArray) (w : World) (hs : s.size ≤ maxLen) :
    Calls Try.prog 6 #[.string s] w fun e w' => e = .returned (.bool true) ∧ Below w.heap.size w w' := by
  go_enter Try.func6, Try.ntmps6
  go_wp2_with fail
  refine (Decode_any three w (by decide)).mono ?_
  rintro e w1 ⟨hb, ⟨h, _⟩ | ⟨_, v, rfl, ho⟩⟩
  · exact absurd three_dec.1 h
  rw [three_dec.2.1, three_dec.2.2] at ho
  have hrd := Rd.own ho rfl
  have hsz := hb.size
  go_wp2_with fail
  refine (sameClock32_any _ _ [((1 : Int), (3 : Int))] [((1 : Int), (3 : Int))] _ (hrd.below ((Below.refl _ _).alloc (Nat.le_refl _) _)) (rd_three w1)).mono ?_
  rintro e w2 ⟨r, rfl, hr, hb2⟩
  obtain rfl : r = true := hr.2 rfl
  clear hr
  have hb2' := hb.trans (((Below.refl _ _).alloc (Nat.le_refl _) _ : Below w1.heap.size w1 _).trans (hb2.mono (by simp)) |>.mono hsz)
  have hsz2 := hb2'.size
  go_wp2_with fail
  refine (Decode_any s w2 hs).mono ?_
  rintro e w3 ⟨hb3, ⟨hd, rfl⟩ | ⟨hd, v3, rfl, ho3⟩⟩
  · go_wp2
    go_ret
    exact ⟨rfl, hb2'.trans (hb3.mono hsz2)⟩
  · have hrd3 := Rd.own ho3 (rdTo_len _ _).symm
    go_wp2_with fail
    refine (encoded_yes _ _ _ hrd3 hd.2.2).mono ?_
    rintro e w4 ⟨rfl, hb4⟩
    rw [enc_dec s hd]
    go_wp2
    go_ret
    exact ⟨rfl, hb2'.trans ((hb3.trans (hb4.mono hb3.size)).mono hsz2)⟩
end Go.Proofs.Ytkiipmdplpcfeaa
