/-
  DERIVED. GIVEN WITH THE SEED: THE CARDS: each row of YtilkdeghknjjhaaGreatDoorRows.lean that lists a variable, with what it lists TIED to the program's text (the seventh form; the later family's looks); each row that meets fmt, with fmt's text TOLD by the authors' own Lean function (tested against real Go, not proved from fmt's source: count such statements apart). THE CARD IS WHAT COUNTS. Prove the row's statement (the work); the ties are given (YtilkdeghknjjhaaGreatDoorTie.lean); close each card by the builder's one call (the guide's Derived/Test/ToyasCard.lean, 'card_holds'). Laid BY PROGRAM, IN A SANDBOX (cutbox-door.mjs). By AI agents, Wed Nov 11 2026. No macro, syntax, notation, axiom, sorry.
-/
import Derived.Test.YtilkdeghknjjhaaGreatDoorRows
import GoSem.ClaimSeven
namespace Go.Proofs.YtilkdeghknjjhaaGreatDoor
namespace Rows

/-- THE TIED CARD OF 'burrowlaw.Does'. -/
def doesCard : Claim7 := { stood := { row := doesRow, standIns := [], harness := (true, "f71376279488110f9f81077e039f891569b78030c35957b95affe69e7e8cbb6e"), looks := true }, kinds := [], alts := [], goes := true, laidByText := true, laidKinds := [.data, .data, .data, .sentinel, .sentinel], laidTests := true, laidLooks := .later }
def DoesCardSaid : Prop := Claim7.holds Tryz.pinned (.plain (OpenSpec.ofChange doesSpec)) doesCard

/-- THE TIED CARD OF 'burrowlaw.Holds'. -/
def holdsCard : Claim7 := { stood := { row := holdsRow, standIns := [], harness := (true, "f71376279488110f9f81077e039f891569b78030c35957b95affe69e7e8cbb6e"), looks := true }, kinds := [], alts := [], goes := true, laidByText := true, laidKinds := [.data, .data, .data, .sentinel, .sentinel], laidTests := true, laidLooks := .later }
def HoldsCardSaid : Prop := Claim7.holds Tryz.pinned (.plain (OpenSpec.ofChange holdsSpec)) holdsCard

/-- THE TIED CARD OF 'burrowlaw.All'. -/
def allCard : Claim7 := { stood := { row := allRow, standIns := [], harness := (true, "f71376279488110f9f81077e039f891569b78030c35957b95affe69e7e8cbb6e"), looks := true }, kinds := [], alts := [], goes := true, laidByText := true, laidKinds := [.data, .data, .data, .sentinel, .sentinel], laidTests := true, laidLooks := .later }
def AllCardSaid : Prop := Claim7.holds Tryz.pinned (.plain (OpenSpec.ofChange allSpec)) allCard

/-- THE TIED CARD OF 'burrowkeep.Stands'. -/
def standsCard : Claim7 := { stood := { row := standsRow, standIns := [], harness := (true, "f71376279488110f9f81077e039f891569b78030c35957b95affe69e7e8cbb6e"), looks := true }, kinds := [], alts := [], goes := true, laidByText := true, laidKinds := [.data, .data, .data, .sentinel, .sentinel], laidTests := true, laidLooks := .later }
def StandsCardSaid : Prop := Claim7.holds Tryz.pinned (.plain (OpenSpec.ofChange standsSpec)) standsCard

/-- THE TIED CARD OF 'burrowkeep.Held'. -/
def heldCard : Claim7 := { stood := { row := heldRow, standIns := [], harness := (true, "f71376279488110f9f81077e039f891569b78030c35957b95affe69e7e8cbb6e"), looks := true }, kinds := [], alts := [], goes := true, laidByText := true, laidKinds := [.data, .data, .data, .sentinel, .sentinel], laidTests := true, laidLooks := .later }
def HeldCardSaid : Prop := Claim7.holds Tryz.pinned (.plain (OpenSpec.ofChange heldSpec)) heldCard

/-- THE TIED CARD OF 'burrowkeep.Prefix'. -/
def prefixCard : Claim7 := { stood := { row := prefixRow, standIns := [], harness := (true, "f71376279488110f9f81077e039f891569b78030c35957b95affe69e7e8cbb6e"), looks := true }, kinds := [], alts := [], goes := true, laidByText := true, laidKinds := [.data, .data, .data, .sentinel, .sentinel], laidTests := true, laidLooks := .later }
def PrefixCardSaid : Prop := Claim7.holds Tryz.pinned (.plain (OpenSpec.ofChange prefixSpec)) prefixCard

/-- THE TIED CARD OF 'burrowkeep.Buried'. -/
def buriedCard : Claim7 := { stood := { row := buriedRow, standIns := [], harness := (true, "f71376279488110f9f81077e039f891569b78030c35957b95affe69e7e8cbb6e"), looks := true }, kinds := [], alts := [], goes := true, laidByText := true, laidKinds := [.data, .data, .data, .sentinel, .sentinel], laidTests := true, laidLooks := .later }
def BuriedCardSaid : Prop := Claim7.holds Tryz.pinned (.plain (OpenSpec.ofChange buriedSpec)) buriedCard

/-- THE SECOND FORM's CARD OF 'burrowlaw.Does'. -/
def doesUptoCard : Claim7 := { stood := { row := doesUptoRow, standIns := [], harness := (true, "f71376279488110f9f81077e039f891569b78030c35957b95affe69e7e8cbb6e"), looks := true }, kinds := [], alts := [], goes := true, laidByText := true, laidKinds := [.data, .data, .data, .sentinel, .sentinel], laidTests := true, laidLooks := .later }
def DoesUptoCardSaid : Prop := Claim7.holds Tryz.pinned (.plain (OpenSpec.upto doesSpec)) doesUptoCard

/-- THE SECOND FORM's CARD OF 'burrowlaw.Holds'. -/
def holdsUptoCard : Claim7 := { stood := { row := holdsUptoRow, standIns := [], harness := (true, "f71376279488110f9f81077e039f891569b78030c35957b95affe69e7e8cbb6e"), looks := true }, kinds := [], alts := [], goes := true, laidByText := true, laidKinds := [.data, .data, .data, .sentinel, .sentinel], laidTests := true, laidLooks := .later }
def HoldsUptoCardSaid : Prop := Claim7.holds Tryz.pinned (.plain (OpenSpec.upto holdsSpec)) holdsUptoCard

/-- THE SECOND FORM's CARD OF 'burrowlaw.All'. -/
def allUptoCard : Claim7 := { stood := { row := allUptoRow, standIns := [], harness := (true, "f71376279488110f9f81077e039f891569b78030c35957b95affe69e7e8cbb6e"), looks := true }, kinds := [], alts := [], goes := true, laidByText := true, laidKinds := [.data, .data, .data, .sentinel, .sentinel], laidTests := true, laidLooks := .later }
def AllUptoCardSaid : Prop := Claim7.holds Tryz.pinned (.plain (OpenSpec.upto allSpec)) allUptoCard

/-- THE SECOND FORM's CARD OF 'burrowkeep.Stands'. -/
def standsUptoCard : Claim7 := { stood := { row := standsUptoRow, standIns := [], harness := (true, "f71376279488110f9f81077e039f891569b78030c35957b95affe69e7e8cbb6e"), looks := true }, kinds := [], alts := [], goes := true, laidByText := true, laidKinds := [.data, .data, .data, .sentinel, .sentinel], laidTests := true, laidLooks := .later }
def StandsUptoCardSaid : Prop := Claim7.holds Tryz.pinned (.plain (OpenSpec.upto standsSpec)) standsUptoCard

/-- THE SECOND FORM's CARD OF 'burrowkeep.Held'. -/
def heldUptoCard : Claim7 := { stood := { row := heldUptoRow, standIns := [], harness := (true, "f71376279488110f9f81077e039f891569b78030c35957b95affe69e7e8cbb6e"), looks := true }, kinds := [], alts := [], goes := true, laidByText := true, laidKinds := [.data, .data, .data, .sentinel, .sentinel], laidTests := true, laidLooks := .later }
def HeldUptoCardSaid : Prop := Claim7.holds Tryz.pinned (.plain (OpenSpec.upto heldSpec)) heldUptoCard

/-- THE SECOND FORM's CARD OF 'burrowkeep.Prefix'. -/
def prefixUptoCard : Claim7 := { stood := { row := prefixUptoRow, standIns := [], harness := (true, "f71376279488110f9f81077e039f891569b78030c35957b95affe69e7e8cbb6e"), looks := true }, kinds := [], alts := [], goes := true, laidByText := true, laidKinds := [.data, .data, .data, .sentinel, .sentinel], laidTests := true, laidLooks := .later }
def PrefixUptoCardSaid : Prop := Claim7.holds Tryz.pinned (.plain (OpenSpec.upto prefixSpec)) prefixUptoCard

/-- THE SECOND FORM's CARD OF 'burrowkeep.Buried'. -/
def buriedUptoCard : Claim7 := { stood := { row := buriedUptoRow, standIns := [], harness := (true, "f71376279488110f9f81077e039f891569b78030c35957b95affe69e7e8cbb6e"), looks := true }, kinds := [], alts := [], goes := true, laidByText := true, laidKinds := [.data, .data, .data, .sentinel, .sentinel], laidTests := true, laidLooks := .later }
def BuriedUptoCardSaid : Prop := Claim7.holds Tryz.pinned (.plain (OpenSpec.upto buriedSpec)) buriedUptoCard
end Rows
end Go.Proofs.YtilkdeghknjjhaaGreatDoor
