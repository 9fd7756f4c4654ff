/-
  No cell of these rows narrows 'for every input' (looked for: loops, veiled, ifaces, maps, wideKeys, modest, calm, conditions, laid).
  DERIVED. THE GIVEN ROWS OF THIS SEAT. 5 by the template 'for every input the law returns true; each argument reads behind the call as it read before'; 0 by the template 'total and deterministic' (their statements: YtkiipmdplpcfeaaTotals.lean).
  GIVEN WITH THE SEED: the statements are not yours to turn. If you find one false, say at which input.
  Laid BY PROGRAM, IN A SANDBOX (cutbox-rows.mjs): the forced cells as the released guide's own fill.sh prints them over the translation de80f77cdf8d48ce… (all of the seat's roots in one cut). By AI agents, Wed Nov 11 2026. No macro, syntax, notation, axiom, sorry.
-/
import Derived.Test.YtkiipmdplpcfeaaChecked
import GoSem.Claim
import GoSem.ClaimJoined
import GoSem.ClaimMapViews
import Derived.JoinedTies
import Derived.KernelRfl
namespace Go.Proofs.Ytkiipmdplpcfeaa
/- THE CELL 'sum', in the pinned program and in every row, IS THE sha256 OF THE DUMP (.gsa) THAT YtkiipmdplpcfeaaProg.lean LOADS. Nothing in Lean hashes anything: it is a label: what it is worth is what the hold of that sum in a sandbox is worth. -/
noncomputable def Try.pinned : Pinned := { name := "ytkiipmdplpcfeaa", sum := "de80f77cdf8d48ceb22222f4df030e38567af66bcae94f5afdf6aa6154732568", checked := Try.checked }
namespace Rows
def none {H : Type} : Left H := { results := [], args := [] }

/-- 'burrowlaw.Clocks': WHATEVER THE INPUT: true; the input reads as it did. -/
def clocksSpec : ChangeSpec := { name := "clocks", fn := fun _ => fun
  | [d1, d2, d3, d4, d5] => { results := [.lit (.bool true)], args := [d1, d2, d3, d4, d5] }
  | _ => none }
def clocksRow : OpenClaim := { program := "ytkiipmdplpcfeaa", sum := "de80f77cdf8d48ceb22222f4df030e38567af66bcae94f5afdf6aa6154732568", func := "burrow/burrowlaw.Clocks", spec := "clocks", apart := false }
def ClocksSaid : Prop := clocksRow.holds Try.pinned (OpenSpec.ofChange clocksSpec)

/-- ITS FALSE NEIGHBOUR: 'it returns false'. Refute it at one input. -/
def clocksWrong : ChangeSpec := { name := "clocks", fn := fun _ => fun
  | [d1, d2, d3, d4, d5] => { results := [.lit (.bool false)], args := [d1, d2, d3, d4, d5] }
  | _ => none }
def ClocksWrongFalsely : Prop := clocksRow.holds Try.pinned (OpenSpec.ofChange clocksWrong)

/-- 'burrowlaw.Sets': WHATEVER THE INPUT: true; the input reads as it did. -/
def setsSpec : ChangeSpec := { name := "sets", fn := fun _ => fun
  | [d1, d2, d3, d4, d5] => { results := [.lit (.bool true)], args := [d1, d2, d3, d4, d5] }
  | _ => none }
def setsRow : OpenClaim := { program := "ytkiipmdplpcfeaa", sum := "de80f77cdf8d48ceb22222f4df030e38567af66bcae94f5afdf6aa6154732568", func := "burrow/burrowlaw.Sets", spec := "sets", inPlace := ["slices.overlaps[burrow/api.Sibling]"], unfollowed := true, recurses := true, apart := false }
def SetsSaid : Prop := setsRow.holds Try.pinned (OpenSpec.ofChange setsSpec)

/-- ITS FALSE NEIGHBOUR: 'it returns false'. Refute it at one input. -/
def setsWrong : ChangeSpec := { name := "sets", fn := fun _ => fun
  | [d1, d2, d3, d4, d5] => { results := [.lit (.bool false)], args := [d1, d2, d3, d4, d5] }
  | _ => none }
def SetsWrongFalsely : Prop := setsRow.holds Try.pinned (OpenSpec.ofChange setsWrong)

/-- 'burrowkeep.Joined': WHATEVER THE INPUT: true; the input reads as it did. -/
def joinedSpec : ChangeSpec := { name := "joined", fn := fun _ => fun
  | [d1, d2, d3, d4, d5, d6, d7, d8] => { results := [.lit (.bool true)], args := [d1, d2, d3, d4, d5, d6, d7, d8] }
  | _ => none }
def joinedRow : OpenClaim := { program := "ytkiipmdplpcfeaa", sum := "de80f77cdf8d48ceb22222f4df030e38567af66bcae94f5afdf6aa6154732568", func := "burrow/burrowkeep.Joined", spec := "joined", apart := false }
def JoinedSaid : Prop := joinedRow.holds Try.pinned (OpenSpec.ofChange joinedSpec)

/-- ITS FALSE NEIGHBOUR: 'it returns false'. Refute it at one input. -/
def joinedWrong : ChangeSpec := { name := "joined", fn := fun _ => fun
  | [d1, d2, d3, d4, d5, d6, d7, d8] => { results := [.lit (.bool false)], args := [d1, d2, d3, d4, d5, d6, d7, d8] }
  | _ => none }
def JoinedWrongFalsely : Prop := joinedRow.holds Try.pinned (OpenSpec.ofChange joinedWrong)

/-- 'burrowkeep.Exact': WHATEVER THE INPUT: true; the input reads as it did. -/
def exactSpec : ChangeSpec := { name := "exact", fn := fun _ => fun
  | [d] => { results := [.lit (.bool true)], args := [d] }
  | _ => none }
def exactRow : OpenClaim := { program := "ytkiipmdplpcfeaa", sum := "de80f77cdf8d48ceb22222f4df030e38567af66bcae94f5afdf6aa6154732568", func := "burrow/burrowkeep.Exact", spec := "exact", apart := false }
def ExactSaid : Prop := exactRow.holds Try.pinned (OpenSpec.ofChange exactSpec)

/-- ITS FALSE NEIGHBOUR: 'it returns false'. Refute it at one input. -/
def exactWrong : ChangeSpec := { name := "exact", fn := fun _ => fun
  | [d] => { results := [.lit (.bool false)], args := [d] }
  | _ => none }
def ExactWrongFalsely : Prop := exactRow.holds Try.pinned (OpenSpec.ofChange exactWrong)

/-- 'burrowkeep.Beside': WHATEVER THE INPUT: true; the input reads as it did. -/
def besideSpec : ChangeSpec := { name := "beside", fn := fun _ => fun
  | [d1, d2, d3, d4] => { results := [.lit (.bool true)], args := [d1, d2, d3, d4] }
  | _ => none }
def besideRow : OpenClaim := { program := "ytkiipmdplpcfeaa", sum := "de80f77cdf8d48ceb22222f4df030e38567af66bcae94f5afdf6aa6154732568", func := "burrow/burrowkeep.Beside", spec := "beside", inPlace := ["slices.overlaps[burrow/api.Sibling]"], unfollowed := true, recurses := true, apart := false }
def BesideSaid : Prop := besideRow.holds Try.pinned (OpenSpec.ofChange besideSpec)

/-- ITS FALSE NEIGHBOUR: 'it returns false'. Refute it at one input. -/
def besideWrong : ChangeSpec := { name := "beside", fn := fun _ => fun
  | [d1, d2, d3, d4] => { results := [.lit (.bool false)], args := [d1, d2, d3, d4] }
  | _ => none }
def BesideWrongFalsely : Prop := besideRow.holds Try.pinned (OpenSpec.ofChange besideWrong)

/- THE SECOND FORM. 'bulk': how many values and letters a reading holds, each counted each time it is reached (what is shared counts as often as it is met; a slice's spare places count too). A statement '..UptoSaid' is the law's where the arguments, and the package variables that the reading takes, are together of bulk at most 1048576: NARROWER than '..Said'. Prove '..Said' where nothing that the law and all that it calls make is longer than what came in: it says more and counts as full. Else prove '..UptoSaid'. A law counts once. -/
mutual
def uptoBulk {H : Type} : DataW H → Nat
  | .lit (.string bytes) => bytes.length + 1
  | .lit _ => 1
  | .nil => 1
  | .ptr d => uptoBulk d + 1
  | .slice elems spare => uptoBulkAll elems + uptoBulkAll spare + 1
  | .agg parts => uptoBulkAll parts + 1
  | .iface _ d => uptoBulk d + 1
  | .map entries => uptoBulkEntries entries + 1
  | .held _ => 1
def uptoBulkAll {H : Type} : List (DataW H) → Nat
  | [] => 0
  | d :: r => uptoBulk d + uptoBulkAll r
def uptoBulkEntries {H : Type} : List (Lit × DataW H) → Nat
  | [] => 0
  | x :: r => uptoBulkEntry x + uptoBulkEntries r
def uptoBulkEntry {H : Type} : Lit × DataW H → Nat
  | (.string bytes, d) => bytes.length + uptoBulk d + 1
  | (_, d) => uptoBulk d + 1
 end
def uptoSmall : (H : Type) → List (DataW H) → Bool := fun _ ds => decide (uptoBulkAll ds ≤ 1048576)
def OpenSpec.upto (s : _root_.Go.ChangeSpec) : _root_.Go.OpenSpec := { _root_.Go.OpenSpec.ofChange s with cond := some uptoSmall }

/-- 'burrowlaw.Clocks', WHERE WHAT IT READS IS OF BULK AT MOST 1048576: true; the input reads as it did. -/
def clocksUptoRow : OpenClaim := { program := "ytkiipmdplpcfeaa", sum := "de80f77cdf8d48ceb22222f4df030e38567af66bcae94f5afdf6aa6154732568", func := "burrow/burrowlaw.Clocks", spec := "clocks", apart := false, narrowed := true }
def ClocksUptoSaid : Prop := clocksUptoRow.holds Try.pinned (OpenSpec.upto clocksSpec)

/-- 'burrowlaw.Sets', WHERE WHAT IT READS IS OF BULK AT MOST 1048576: true; the input reads as it did. -/
def setsUptoRow : OpenClaim := { program := "ytkiipmdplpcfeaa", sum := "de80f77cdf8d48ceb22222f4df030e38567af66bcae94f5afdf6aa6154732568", func := "burrow/burrowlaw.Sets", spec := "sets", inPlace := ["slices.overlaps[burrow/api.Sibling]"], unfollowed := true, recurses := true, apart := false, narrowed := true }
def SetsUptoSaid : Prop := setsUptoRow.holds Try.pinned (OpenSpec.upto setsSpec)

/-- 'burrowkeep.Joined', WHERE WHAT IT READS IS OF BULK AT MOST 1048576: true; the input reads as it did. -/
def joinedUptoRow : OpenClaim := { program := "ytkiipmdplpcfeaa", sum := "de80f77cdf8d48ceb22222f4df030e38567af66bcae94f5afdf6aa6154732568", func := "burrow/burrowkeep.Joined", spec := "joined", apart := false, narrowed := true }
def JoinedUptoSaid : Prop := joinedUptoRow.holds Try.pinned (OpenSpec.upto joinedSpec)

/-- 'burrowkeep.Exact', WHERE WHAT IT READS IS OF BULK AT MOST 1048576: true; the input reads as it did. -/
def exactUptoRow : OpenClaim := { program := "ytkiipmdplpcfeaa", sum := "de80f77cdf8d48ceb22222f4df030e38567af66bcae94f5afdf6aa6154732568", func := "burrow/burrowkeep.Exact", spec := "exact", apart := false, narrowed := true }
def ExactUptoSaid : Prop := exactUptoRow.holds Try.pinned (OpenSpec.upto exactSpec)

/-- 'burrowkeep.Beside', WHERE WHAT IT READS IS OF BULK AT MOST 1048576: true; the input reads as it did. -/
def besideUptoRow : OpenClaim := { program := "ytkiipmdplpcfeaa", sum := "de80f77cdf8d48ceb22222f4df030e38567af66bcae94f5afdf6aa6154732568", func := "burrow/burrowkeep.Beside", spec := "beside", inPlace := ["slices.overlaps[burrow/api.Sibling]"], unfollowed := true, recurses := true, apart := false, narrowed := true }
def BesideUptoSaid : Prop := besideUptoRow.holds Try.pinned (OpenSpec.upto besideSpec)

end Rows
end Go.Proofs.Ytkiipmdplpcfeaa
