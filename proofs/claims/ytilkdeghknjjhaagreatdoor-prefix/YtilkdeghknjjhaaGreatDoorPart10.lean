/- The contracts of bytes and of the document's Encode. -/
import Derived.Test.YtilkdeghknjjhaaGreatDoorPart08
import Derived.Test.YtilkdeghknjjhaaGreatDoorPart09
import Derived.WalkKit
import Derived.WalkSpells
import Derived.WalkLawsBesides
import Derived.Deep.QuietTactic
import Derived.BigQuiet
import Derived.Lib.Strings
namespace Go.Proofs.YtilkdeghknjjhaaGreatDoor
open Go.RowKit M
set_option linter.unusedVariables false

/-- The last k bytes of a number, the highest first. -/
def loN (c : Int) : Nat → List Int
  | 0 => []
  | k + 1 => byteAt c k :: loN c k

theorem loN_len (c : Int) : ∀ k, (loN c k).length = k
  | 0 => rfl
  | k + 1 => by simp [loN, loN_len c k]
theorem str_app (a b : List Int) : strOfNums a ++ strOfNums b = strOfNums (a ++ b) := by
  apply WideShapes.bytes_inj
  rw [strOfNums_data]
  have : (strOfNums a ++ strOfNums b).data = (strOfNums a).data ++ (strOfNums b).data := ByteArray.data_append
  rw [this, Array.toList_append, strOfNums_data, strOfNums_data, List.map_append]
theorem str_cons (x : Int) (b : List Int) : strOfNums [x] ++ strOfNums b = strOfNums (x :: b) := str_app [x] b

set_option maxRecDepth 20000 in
set_option maxHeartbeats 400000 in
theorem refbytes_any (c : Int) (n : Nat) (w : World) (h0 : 0 ≤ c) (h1 : c ≤ 4611686018427387904) (hn : n ≤ 8) :
    Calls Tryz.prog 214 #[.int .i64 c, .int .i64 (n : Int)] w fun e w' => e = .returned (.string (strOfNums (loN c n))) ∧ Below w.heap.size w w' := by
  have hn8 : (n : Int) ≤ 8 := by omega
  go_enter Tryz.func214, Tryz.ntmps214
  go_wp2
  go_loopw [0, 5, 6] (fun d s i wr => ∃ (k : Nat) (q : Int) (t : ByteArray), k ≤ n ∧ i = .int .i64 k ∧ d = .int .i64 q ∧ s = .string t ∧ Hid (q = c / 2 ^ (8 * k)) ∧ 0 ≤ q ∧ q ≤ 4611686018427387904 ∧ Hid (t = strOfNums (loN c k)) ∧ Below w.heap.size w wr)
    (fun _ _ i _ => n - (intOf i).toNat)
  case atStart => exact ⟨0, c, ByteArray.empty, Nat.zero_le _, rfl, rfl, rfl, by show _ = _; simp, h0, h1, rfl, Below.refl _ _⟩
  case round =>
    obtain ⟨k, q, t, hk, rfl, rfl, rfl, hq, q0, q1, ht, hb⟩ := hrel
    have hsz := hb.size
    by_cases hlt : k < n
    · have m0 : 0 ≤ q % 256 := by omega
      have m1 : q % 256 < 256 := by omega
      have kc := fun (wx : World) (hx : Hid (wx.cell? ⟨wr.heap.size, 0, none⟩ = some (.int .u8 (q % 256)))) => run_convert_bytes_arg (P := Tryz.prog) wx 126 5 Tryz.underlying126 Tryz.underlying5 wr.heap.size 0 1 1 [q % 256] rfl (fun i hi => by
        obtain rfl : i = 0 := by omega
        exact hx.out) 9 Tryz.underlying9
      have kc1 := kc (wr.alloc (.cells #[.int .u8 (q % 256)] 5)) (by show _ = _; simp [go_sem])
      clear kc
      obtain ⟨u, hu⟩ : ∃ u, strOfNums [q % 256] = u := ⟨_, rfl⟩
      have us : u.size ≤ 1 := by rw [← hu, strOfNums_size]; simp
      have ts : t.size ≤ 8 := by rw [ht.out, strOfNums_size, loN_len]; omega
      rw [hu] at kc1
      have HU : Hid (strOfNums [q % 256] = u) := hu
      clear hu
      go_wp2
      go_roundw
      case rel =>
        refine ⟨k + 1, q / 256, u ++ t, by omega, by go_num, rfl, rfl, ?_, by omega, by omega, ?_, hb.alloc hsz _⟩
        · show _ = _
          rw [hq.out, Int.ediv_ediv_of_nonneg (Int.le_of_lt (Int.pow_pos (by decide))), show 8 * (k + 1) = 8 * k + 8 by omega, Int.pow_add]
          rfl
        · show _ = _
          rw [← HU.out, ht.out, str_cons]
          have : q % 256 = byteAt c k := by rw [hq.out]; rfl
          rw [this]; rfl
      case measure => simp [intOf]; omega
    · obtain rfl : k = n := by omega
      go_wp2
      go_ret
      exact ⟨by rw [ht.out]; rfl, hb⟩
end Go.Proofs.YtilkdeghknjjhaaGreatDoor
